import PyProof.Rows.All
import Wide.All
import OpenK.AllK
import Wide.FinOn
import Lean
import PyProof.EqAt
import PyProof.EqKinds
import PyProof.TupleCall
import KE.KRevIter
import KE.KSortKey
import PySem.Challenge.RW_strandwright_k08_whole_sets_of_joints
set_option maxHeartbeats 2000000
set_option Elab.async false
set_option linter.all false
set_option maxRecDepth 100000
set_option genSizeOfSpec false
set_option tactic.hygienic false
noncomputable abbrev Za:=@List.getElem?_eq_getElem
noncomputable abbrev Ya:=@List.length_map
noncomputable abbrev Xa:=@List.length_append
noncomputable abbrev Wa:=@List.mem_of_getElem?
noncomputable abbrev Va:=@Nat.le_refl
noncomputable abbrev Qa:=@List.getD_eq_getElem?_getD
noncomputable abbrev Yb:=@List.getElem?_eq_some_iff
noncomputable abbrev Xb:=@List.mem_cons_of_mem
noncomputable abbrev Wb:=@List.mem_singleton
noncomputable abbrev Vb:=@List.size_toArray
noncomputable abbrev Qb:=@Option.bind_some
noncomputable abbrev Zc:=@List.mem_cons_self
noncomputable abbrev Yc:=@Array.length_toList
noncomputable abbrev Xc:=@List.mem_append
noncomputable abbrev Wc:=@List.getElem?_map
noncomputable abbrev Vc:=@List.map_append
noncomputable abbrev Qc:=@List.mem_map
noncomputable abbrev Zd:=@Nat.lt_of_lt_of_le
noncomputable abbrev Yd:=@Bool.false_ne_true
noncomputable abbrev Xd:=@Option.map_eq_some_iff
noncomputable abbrev Wd:=@List.mem_append_right
noncomputable abbrev Vd:=@List.append_assoc
noncomputable abbrev Qd:=@List.length_cons
noncomputable abbrev Ze:=@List.mem_cons
noncomputable abbrev Ye:=@List.getElem?_append_right
noncomputable abbrev Xe:=@Nat.le_trans
noncomputable abbrev We:=@Nat.exists_eq_add_one_of_ne_zero
noncomputable abbrev Ve:=@List.append_nil
noncomputable abbrev Qe:=@Bool.false_eq_true
noncomputable abbrev Zf:=@List.eq_nil_of_length_eq_zero
noncomputable abbrev Yf:=@List.getElem?_append_left
noncomputable abbrev Xf:=@List.map_cons
noncomputable abbrev Wf:=@List.getElem?_drop
noncomputable abbrev Vf:=@List.flatMap_cons
noncomputable abbrev Qf:=@Bool.eq_iff_iff
noncomputable abbrev Zg:=@Nat.ne_of_lt
noncomputable abbrev Yg:=@Array.perm_iff_toList_perm
noncomputable abbrev Xg:=@List.map_map
noncomputable abbrev Wg:=@Array.getElem?_toList
noncomputable abbrev Vg:=@List.length_pos_iff
noncomputable abbrev Qg:=@List.length_singleton
noncomputable abbrev Zh:=@List.length_nil
noncomputable abbrev Yh:=@List.pairwise_cons
noncomputable abbrev Xh:=@List.length_replicate
noncomputable abbrev Wh:=@Nat.zero_le
noncomputable abbrev Vh:=@List.flatMap_append
noncomputable abbrev Qh:=@List.nodup_append
noncomputable abbrev Zi:=@List.pairwise_iff_getElem
noncomputable abbrev Yi:=@Bool.and_eq_true
noncomputable abbrev Xi:=@List.take_append_drop
noncomputable abbrev Wi:=@Nat.lt_irrefl
noncomputable abbrev Vi:=@List.mem_append_left
noncomputable abbrev Qi:=@List.pairwise_append
noncomputable abbrev Zj:=@List.mem_flatten
noncomputable abbrev Yj:=@Nat.add_le_add_left
noncomputable abbrev Xj:=@List.getElem?_replicate
noncomputable abbrev Wj:=@List.length_drop
noncomputable abbrev Vj:=@Nat.le_add_right
noncomputable abbrev Qj:=@Array.size_range
noncomputable abbrev Zk:=@Nat.le_of_lt
noncomputable abbrev Yk:=@Nat.ne_of_gt
noncomputable abbrev Xk:=@List.map_congr_left
noncomputable abbrev Vk:=@List.nodup_cons
noncomputable abbrev Qk:=@List.length_take
noncomputable abbrev Zl:=@List.perm_middle
noncomputable abbrev Yl:=@List.getElem?_of_mem
noncomputable abbrev Xl:=@List.find?_cons
noncomputable abbrev Wl:=@Nat.add_sub_cancel'
noncomputable abbrev Vl:=@List.take_of_length_le
noncomputable abbrev Ql:=@List.all_eq_true
noncomputable abbrev Zm:=@List.mem_range
noncomputable abbrev Ym:=@Array.getElem?_map
noncomputable abbrev Xm:=@Array.toList_range
noncomputable abbrev Wm:=@List.drop_eq_getElem_cons
noncomputable abbrev Vm:=@List.flatten_append
noncomputable abbrev Qm:=@Nat.lt_succ_self
noncomputable abbrev Zn:=@Array.size_map
noncomputable abbrev Yn:=@Nat.lt_of_le_of_lt
noncomputable abbrev Xn:=@List.getElem?_take
noncomputable abbrev Wn:=@List.getElem?_eq_none
namespace L2
open PySem PySem.Spec PyProof.Rows
noncomputable abbrev Key:=Sum Int Str
noncomputable def o7:Key->Value->Bool
 | .inl k,v=>Value.isInt k v
 | .inr x,v=>Value.isStrOf x v
noncomputable def GO(w:World):Key->Int
 | .inl k=>hashInt k
 | .inr x=>hashStr w x
theorem cy:∀{k:Key}{v:Value},o7 k v=true->(∃i t,k=Sum.inl i/\v=Value.int i t)∨(∃x t,k=Sum.inr x/\v=Value.str x t)
 | .inl i,v,h=>by
  obtain⟨t,e⟩:=Value.isInt_shape (k:=i) (v:=v) h;exact .inl ⟨i,t,rfl,e⟩
 | .inr x,v,h=>by
  obtain⟨t,e⟩:=Value.isStrOf_shape (x:=x) (v:=v) h;exact .inr ⟨x,t,rfl,e⟩
theorem wj(i:Int)(t:Tok):o7 (.inl i) (.int i t)=true:=by simp[o7,Value.isInt]
theorem wm(x:Str)(t:Tok):o7 (.inr x) (.str x t)=true:=by simp[o7,Value.isStrOf]
theorem C0(a b:Int):decide ((Sum.inl a:Key)=Sum.inl b)=(a == b):=by
 by_cases e:a=b
 ·subst e;simp
 ·have h:¬ (Sum.inl a:Key)=Sum.inl b:=fun q=>e (Sum.inl.inj q);rw[decide_eq_false h];exact(beq_eq_false_iff_ne.mpr e).symm
theorem C1(a b:Str):decide ((Sum.inr a:Key)=Sum.inr b)=decide (a=b):=by
 by_cases e:a=b
 ·subst e;simp
 ·have h:¬ (Sum.inr a:Key)=Sum.inr b:=fun q=>e (Sum.inr.inj q);rw[decide_eq_false h,decide_eq_false e]
theorem C2(a:Int)(b:Str):decide ((Sum.inl a:Key)=Sum.inr b)=false:=decide_eq_false (fun q=>nomatch q)
theorem C3(a:Str)(b:Int):decide ((Sum.inr a:Key)=Sum.inl b)=false:=decide_eq_false (fun q=>nomatch q)
noncomputable def cG(prog:Program)(w:World):PySem.KeyKind prog w Key where
 is:=o7
 hash:=GO w
 inj:=fun v a b ha hb=>by
  rcases cy ha with⟨i,t,rfl,rfl⟩|⟨x,t,rfl,rfl⟩
  ·rcases cy hb with⟨j,u,rfl,e⟩|⟨y,u,rfl,e⟩
   ·injection e with e1 _;rw[e1]
   ·exact nomatch e
  ·rcases cy hb with⟨j,u,rfl,e⟩|⟨y,u,rfl,e⟩
   ·exact nomatch e
   ·injection e with e1 _;rw[e1]
 byValue:=fun k v h=>by
  rcases cy h with⟨i,t,rfl,rfl⟩|⟨x,t,rfl,rfl⟩<;>rfl
 pyHash:=fun hv h=>by
  rcases cy hv with⟨i,t,rfl,rfl⟩|⟨x,t,rfl,rfl⟩
  ·exact wpAny_pyHash_int h
  ·exact wpAny_pyHash_str h
 eqBool:=fun hu hv h=>by
  rcases cy hu with⟨i,t,rfl,rfl⟩|⟨x,t,rfl,rfl⟩
  ·rcases cy hv with⟨j,u,rfl,rfl⟩|⟨y,u,rfl,rfl⟩
   ·rw[C0]at h;exact wpAny_eqBool_int h
   ·rw[C2]at h;exact SeqAt.EqAt.int_str i t y u _ _ _ _ h
  ·rcases cy hv with⟨j,u,rfl,rfl⟩|⟨y,u,rfl,rfl⟩
   ·rw[C3]at h;exact SeqAt.EqAt.str_int x t j u _ _ _ _ h
   ·rw[C1]at h;exact wpAny_eqBool_str h
 «strs»:=fun k x t v h=>by
  rcases cy h with⟨i,u,rfl,e⟩|⟨y,u,rfl,e⟩
  ·exact nomatch e
  ·injection e with e1 _
   subst e1;cases v<;>rfl
theorem rB(prog:Program)(w:World)(i:Int)(t:Tok):(cG prog w).is (.inl i) (.int i t)=true:=wj i t
theorem rC(prog:Program)(w:World)(x:Str)(t:Tok):(cG prog w).is (.inr x) (.str x t)=true:=wm x t
end L2
namespace L2
open PySem PySem.Spec PyProof.Rows
inductive V where
 | non|bl (b:Bool)|int (i:Int)|str (x:Str)|byt (b:Array UInt8)|flt (b:UInt64)|ref (a:Addr)|ty (n:String)
 deriving DecidableEq
noncomputable def RelV:V->Value->Prop
 | .non,u=>u=Value.none
 | .bl b,u=>u=Value.bool b
 | .int i,u=>∃t,u=Value.int i t
 | .str x,u=>∃t,u=Value.str x t
 | .byt b,u=>∃t,u=Value.bytes b t
 | .flt b,u=>∃t,u=Value.float b t
 | .ref a,u=>u=Value.ref a
 | .ty n,u=>u=Value.type n
noncomputable abbrev Vals:List V->List Value->Prop:=Paired RelV
theorem Vals.length{xs:List V}{us:List Value}(r:Vals xs us):xs.length=us.length:=Paired.length r
theorem Vals.get:∀{xs:List V}{us:List Value}{i:Nat}{x:V},Vals xs us->xs[i]?=some x->∃u,us[i]?=some u/\RelV x u
 | _,_,_,_,.nil,e=>by simp at e
 | _,_,0,_,.cons r _,e=>by simp at e;subst e;exact⟨_,rfl,r⟩
 | _,_,i+1,x,.cons _ t,e=>by
  obtain⟨u,h1,h2⟩:=Vals.get (i:=i) (x:=x) t (by simpa using e)
  exact⟨u,by simpa using h1,h2⟩
theorem Vals.set{x:V}{u:Value}(r:RelV x u):∀{xs:List V}{us:List Value}(i:Nat),Vals xs us->Vals (xs.set i x) (us.set i u)
 | _,_,_,.nil=>.nil
 | _,_,0,.cons _ t=>.cons r t
 | _,_,i+1,.cons q t=>.cons q (Vals.set r i t)
theorem Vals.append:∀{xs ys:List V}{us ws:List Value},Vals xs us->Vals ys ws->Vals (xs++ys) (us++ws)
 | _,_,_,_,.nil,s=>s
 | _,_,_,_,.cons r t,s=>.cons r (Vals.append t s)
theorem Vals.take:∀{xs:List V}{us:List Value}(n:Nat),Vals xs us->Vals (xs.take n) (us.take n)
 | _,_,0,_=>.nil
 | _,_,_+1,.nil=>.nil
 | _,_,n+1,.cons r t=>.cons r (Vals.take n t)
theorem Vals.drop:∀{xs:List V}{us:List Value}(n:Nat),Vals xs us->Vals (xs.drop n) (us.drop n)
 | _,_,0,r=>r
 | _,_,_+1,.nil=>.nil
 | _,_,n+1,.cons _ t=>Vals.drop n t
noncomputable def RelO:Option V->Option Value->Prop
 | some v,some u=>RelV v u
 | none,none=>True
 | _,_=>False
noncomputable def KV{κ:Type}:List (κ×V)->List (κ×Value)->Prop:=Paired fun(p:κ×V) (q:κ×Value)=>p.1=q.1/\RelV p.2 q.2
noncomputable def kV:Key->V
 | .inl i=>.int i
 | .inr x=>.str x
inductive HO where
  | lst (xs:List V)
  | tup (xs:List V)
  | dK (kvs:List (Key×V))|dT (ep:Nat×List Addr) (kvs:List (List Key×V))
  | set (S:Int->Bool) (n:Nat)
  | ins (C dx:Addr) (fs:List (Str×V))
  | own (x:Addr)
  | xd (fs:List (Str×V))
  | met (f x:Addr)
  | rng (lo hi:Int)
  | frz (o:Obj) (u:HO)
  | tbl (ps:Array Value)
  | ext (φ:Heap->Prop)
noncomputable abbrev Hp:=Addr->Option HO
noncomputable def upd(H:Hp)(a:Addr)(o:HO):Hp:=fun b=>if b=a then some o else H b
theorem br{H:Hp}{a:Addr}{o:HO}:upd H a o a=some o:=by unfold upd;rw[if_pos rfl]
theorem aT{H:Hp}{a b:Addr}{o:HO}(h:b≠a):upd H a o b=H b:=by unfold upd;rw[if_neg h]
theorem EW{H:Hp}{a b:Addr}{o u:HO}(h:H a=some o)(h':H b=some u)(d:o≠u):a≠b:=by
 intro e;subst e;rw[h]at h';exact d (Option.some.inj h')
theorem bD{H:Hp}{a b:Addr}{o:HO}(h:H a=some o)(h':H b=none):a≠b:=by
 intro e;subst e;rw[h]at h';cases h'
section
variable (P:Program)(w:World)
noncomputable def ObjOk(H:Hp)(h:Heap)(a:Addr):HO->Prop
 | .lst xs=>xs.length<=sizeLine/\∃(its:List Value)(n:Nat),Vals xs its/\h.get? a=some { cls:=.type "list",data:=.seq its.toArray n }
 | .tup xs=>xs.length<=sizeLine/\∃its:List Value,Vals xs its/\IsTup h a its.toArray
 | .dK kvs=>kvs.length<=sizeLine/\(a == sysModules)=false/\∃vs,KV kvs vs/\h.DictOf (cG P w) a vs
 | .dT ep kvs=>kvs.length<=sizeLine/\(a == sysModules)=false/\∃xs:List (List Key×Addr×Value),
   Paired (fun(p:List Key×V) (q:List Key×Addr×Value)=>p.1=q.1/\H q.2.1=some (.tup (p.1.map kV))/\RelV p.2 q.2.2) kvs xs /\
   xs.map (·.2.1)=ep.2/\∃o es,h.get? a=some o/\o.ExactDict/\o.data=.dict es ep.1/\es.toList=xs.map (entryOfKey (tupleKind (cG P w)))/\(xs.map (·.1)).Nodup
 | .set S n=>h.SetOf (intKind P w) a S n
 | .ins C dx fs=>H dx=some (.own a)/\fs.length<=1000/\dx≠a/\h.get? a=some (PySem.W.instObj C dx) /\
   ∃mA,h.Ns1 dx mA/\(∀f,RelO (fs.lookup f) (mA f))/\PySem.Within mA (fs.map (·.1))
 | .own _=>∃o,h.get? a=some o
 | .xd fs=>∃mA,h.Ns1 a mA/\∀f,RelO (fs.lookup f) (mA f)
 | .rng lo hi=>∃t u v,h.get? a=some { cls:=.type "range",data:=.fields #[.int lo t,.int hi u,.int 1 v] }
 | .frz o u=>h.get? a=some o/\ObjOk H h a u
 | .tbl ps=>h.get? a=some { cls:=.none,data:=.fields ps }
 | .met f x=>h.get? a=some (PySem.W.methodObj (.ref f) (.ref x))
 | .ext φ=>φ h/\(∃o,h.get? a=some o)/\∀h1 h2:Heap,φ h1->(∀o,h1.get? a=some o->h2.get? a=some o)->φ h2
noncomputable def HOk(H:Hp)(h:Heap):Prop:=∀a o,H a=some o->ObjOk P w H h a o
end
section
variable {P:Program}{w:World}{H H':Hp}{h h':Heap}{a:Addr}{o:HO}
theorem ObjOk.lt(x:ObjOk P w H h a o):a<h.objs.size:=by
 cases o with
 | lst xs=>obtain⟨_,_,_,_,e⟩:=x;exact Heap.lt_size e
 | tup xs=>obtain⟨_,_,_,p⟩:=x;exact p.lt
 | dK kvs=>obtain⟨_,_,_,_,o,_,_,e,_⟩:=x;exact Heap.lt_size e
 | dT ep kvs=>obtain⟨_,_,_,_,_,o,_,e,_⟩:=x;exact Heap.lt_size e
 | set S n=>obtain⟨o,_,_,_,e,_⟩:=x;exact Heap.lt_size e
 | ins C dx fs=>obtain⟨_,_,_,e,_⟩:=x;exact Heap.lt_size e
 | own y=>obtain⟨_,e⟩:=x;exact Heap.lt_size e
 | xd fs=>obtain⟨_,⟨_,_,_,e,_⟩,_⟩:=x;exact Heap.lt_size e
 | rng lo hi=>obtain⟨_,_,_,e⟩:=x;exact Heap.lt_size e
 | frz ob u=>obtain⟨e,_⟩:=x;exact Heap.lt_size e
 | tbl ps=>exact Heap.lt_size (show h.get? a=some _ from x)
 | met f y=>exact Heap.lt_size (show h.get? a=some _ from x)
 | ext φ=>obtain⟨_,⟨_,e⟩,_⟩:=x;exact Heap.lt_size e
theorem Paired.mapP{α β:Type}{F G:α->β->Prop}:∀{l₁:List α}{l₂:List β},Paired F l₁ l₂->(∀a b,F a b->G a b)->Paired G l₁ l₂
 | _,_,.nil,_=>.nil
 | _,_,.cons r t,f=>.cons (f _ _ r) (Paired.mapP t f)
theorem ObjOk.stay(x:ObjOk P w H h a o)(k:∀b u,(b=a∨H b=some (.own a))->h.get? b=some u->h'.get? b=some u)
  (ho:∀b,H b=some (.own a)->H' b=some (.own a))(ht:∀b xs,H b=some (.tup xs)->H' b=some (.tup xs)):ObjOk P w H' h' a o:=by
 induction o with
 | lst xs=>obtain⟨z,its,n,r,e⟩:=x;exact⟨z,its,n,r,k _ _ (.inl rfl) e⟩
 | tup xs=>obtain⟨z,its,r,ob,e,c⟩:=x;exact⟨z,its,r,ob,k _ _ (.inl rfl) e,c⟩
 | dK kvs=>obtain⟨z,y,vs,r,ob,es,ep,e,c⟩:=x;exact⟨z,y,vs,r,ob,es,ep,k _ _ (.inl rfl) e,c⟩
 | dT ep kvs =>
  obtain⟨z,y,xs,r,ra,ob,es,e,c⟩:=x;exact⟨z,y,xs,Paired.mapP r fun p q z=>⟨z.1,ht _ _ z.2.1,z.2.2⟩,ra,ob,es,k _ _ (.inl rfl) e,c⟩
 | set S n=>obtain⟨ob,es,ep,t,e,c⟩:=x;exact⟨ob,es,ep,t,k _ _ (.inl rfl) e,c⟩
 | ins C dx fs =>
  obtain⟨d,z,ne,e,mA,⟨od,es,ep,e2,c⟩,r⟩:=x;exact⟨ho _ d,z,ne,k _ _ (.inl rfl) e,mA,⟨od,es,ep,k _ _ (.inr d) e2,c⟩,r⟩
 | own y=>obtain⟨ob,e⟩:=x;exact⟨ob,k _ _ (.inl rfl) e⟩
 | xd fs=>obtain⟨mA,⟨od,es,ep,e,c⟩,r⟩:=x;exact⟨mA,⟨od,es,ep,k _ _ (.inl rfl) e,c⟩,r⟩
 | rng lo hi=>obtain⟨t,u,v,e⟩:=x;exact⟨t,u,v,k _ _ (.inl rfl) e⟩
 | frz ob u ih=>obtain⟨e,q⟩:=x;exact⟨k _ _ (.inl rfl) e,ih q⟩
 | tbl ps =>
  have e:h.get? a=some { cls:=.none,data:=.fields ps }:=x;show h'.get? a=some { cls:=.none,data:=.fields ps };exact k a _ (.inl rfl) e
 | met f y =>
  have e:h.get? a=some (PySem.W.methodObj (.ref f) (.ref y)):=x;show h'.get? a=some (PySem.W.methodObj (.ref f) (.ref y));exact k a _ (.inl rfl) e
 | ext φ=>obtain⟨p,⟨o,e⟩,st⟩:=x;exact⟨st _ _ p fun o q=>k _ _ (.inl rfl) q,⟨o,k _ _ (.inl rfl) e⟩,st⟩
theorem HOk.lt(x:HOk P w H h)(e:H a=some o):a<h.objs.size:=(x a o e).lt
theorem HOk.fresh(x:HOk P w H h)(e:h.objs.size<=a):H a=none:=by
 cases q:H a with
 | none=>rfl
 | some u=>exact absurd (Zd (x.lt q) e) (Wi _)
theorem HOk.kept(x:HOk P w H h)(k:∀b u,h.get? b=some u->h'.get? b=some u):HOk P w H h':=fun a o e =>
 (x a o e).stay (fun b u _ q=>k b u q) (fun _ q=>q) fun _ _ q=>q
theorem HOk.laid(x:HOk P w H h)(k:∀b u,h.get? b=some u->h'.get? b=some u)(hp:h.objs.size<=a)(new:ObjOk P w (upd H a o) h' a o):HOk P w (upd H a o) h':=fun b u e=>by
 have hn:=x.fresh hp;by_cases hb:b=a
 ·subst hb;rw[br]at e;cases e;exact new
 ·rw[aT hb]at e;exact(x b u e).stay (fun c v _ q=>k c v q) (fun c q=>by rw[aT (bD q hn)];exact q) fun c xs q=>by rw[aT (bD q hn)];exact q
end
noncomputable def Rd(H:Hp)(a:Addr)(u:HO):Prop:=H a=some u∨∃o,H a=some (.frz o u)
theorem Rd.ok{P:Program}{w:World}{H:Hp}{h:Heap}{a:Addr}{u:HO}(r:Rd H a u)(x:HOk P w H h):ObjOk P w H h a u:=by
 rcases r with r|⟨o,r⟩
 ·exact x a u r
 ·obtain⟨_,q⟩:=x a _ r;exact q
noncomputable def Mut:Option HO->Prop
 | some (.lst _)=>True
 | some (.dK _)=>True
 | some (.dT _ _)=>True
 | some (.set _ _)=>True
 | some (.ins _ _ _)=>True
 | some (.ext _)=>True
 | _=>False
section
variable {P:Program}{w:World}{H:Hp}{h h':Heap}{x e:Addr}{o':HO}
theorem HOk.write(ok:HOk P w H h)(mu:Mut (H x))(he:e=x∨H e=some (.own x))(k:∀b u,b≠e->h.get? b=some u->h'.get? b=some u)(heo:∃u,h'.get? e=some u)
  (new:ObjOk P w (upd H x o') h' x o'):HOk P w (upd H x o') h':=fun b u q=>by
 have nown:∀c y,H c=some (.own y)->c≠x:=fun c y r z=>by subst z;rw[r]at mu;exact mu
 have ntup:∀c xs,H c=some (.tup xs)->c≠x:=fun c xs r z=>by subst z;rw[r]at mu;exact mu
 by_cases hb:b=x
 ·subst hb;rw[br]at q;cases q;exact new
 ·rw[aT hb]at q;by_cases hbe:b=e
  ·have q':H b=some (.own x):=by
    rcases he with z|z
    ·exact absurd (hbe.trans z) hb
    ·rw[hbe];exact z
   rw[q]at q';cases q';obtain⟨v,hv⟩:=heo;exact⟨v,by rw[hbe];exact hv⟩
  ·refine(ok b u q).stay (fun c v hc r=>k c v ?_ r) (fun c r=>by rw[aT (nown c b r)];exact r) fun c xs r=>by rw[aT (ntup c xs r)];exact r
   rcases hc with rfl|hc
   ·exact hbe
   ·rintro rfl;rcases he with z|z
    ·exact nown c b hc z
    ·rw[hc]at z;cases z;exact hb rfl
end
structure Un(fs ex:List Addr)(H H':Hp)(h h':Heap):Prop where
 keep:∀b o,h.get? b=some o->H b=none->b∉fs->b∉ex->h'.get? b=some o
 slot:∀b o,h.get? b=some o->H b=none->b∈fs->b∉ex->∃sl,h'.get? b=some { o with slots:=sl }
 free:∀b o,h.get? b=some o->H b=none->b∉ex->H' b=none
 there:∀b o,h.get? b=some o->b∉ex->∃o',h'.get? b=some o'
 tups:∀b xs,H b=some (.tup xs)->H' b=some (.tup xs)
 frzs:∀b o u,H b=some (.frz o u)->H' b=some (.frz o u)
 tbls:∀b ps,H b=some (.tbl ps)->∃more,H' b=some (.tbl (ps++more))
section
variable {fs fs' ex ex':List Addr}{H H1 H2:Hp}{h h1 h2 h':Heap}{a x e:Addr}{o:HO}
theorem Un.any(u:Un fs ex H H1 h h1){b:Addr}{ob:Obj}(q:h.get? b=some ob)(n:H b=none)(hx:b∉ex):∃sl,h1.get? b=some { ob with slots:=sl }:=by
 by_cases hb:b∈fs
 ·exact u.slot b ob q n hb hx
 ·exact⟨ob.slots,u.keep b ob q n hb hx⟩
theorem Un.kept(k:∀b u,h.get? b=some u->h'.get? b=some u):Un fs ex H H h h' :=
 ⟨fun b ob q _ _ _=>k b ob q,fun b ob q _ _ _=>⟨ob.slots,k b ob q⟩,fun _ _ _ n _=>n,fun b ob q _=>⟨ob,k b ob q⟩,fun _ _ q=>q,fun _ _ _ q=>q,fun _ ps q=>⟨#[],by rw[q];simp⟩⟩
theorem Un.refl:Un fs ex H H h h:=Un.kept fun _ _ q=>q
theorem Un.laid(k:∀b u,h.get? b=some u->h'.get? b=some u)(hp:h.objs.size<=a)(hn:H a=none):Un fs ex H (upd H a o) h h' where
 keep:=fun b u q _ _ _=>k b u q
 slot:=fun b u q _ _ _=>⟨u.slots,k b u q⟩
 free:=fun b u q n _=>by rw[aT (Zg (Zd (Heap.lt_size q) hp))];exact n
 there:=fun b u q _=>⟨u,k b u q⟩
 tups:=fun b xs q=>by rw[aT (bD q hn)];exact q
 frzs:=fun b u xs q=>by rw[aT (bD q hn)];exact q
 tbls:=fun b ps q=>⟨#[],by rw[aT (bD q hn),q];simp⟩
theorem Un.write(mu:Mut (H x))(he:e=x∨H e=some (.own x))(k:∀b u,b≠e->h.get? b=some u->h'.get? b=some u)(heo:∃u,h'.get? e=some u):Un fs ex H (upd H x o) h h':=by
 have hx:∀b,H b=none->b≠x:=fun b n z=>by subst z;rw[n]at mu;exact mu
 have hb:∀b,H b=none->b≠e:=fun b n z=>by
  subst z;rcases he with r|r
  ·exact hx b n r
  ·rw[n]at r;cases r
 have hm:∀b u,H b=some u->¬ Mut (some u)->b≠x:=fun b u q nm z=>by subst z;rw[q]at mu;exact nm mu
 refine⟨fun b u q n _ _=>k b u (hb b n) q,fun b u q n _ _=>⟨u.slots,k b u (hb b n) q⟩,fun b u q n _=>by rw[aT (hx b n)];exact n,fun b u q _=>?_,
  fun b xs q=>by rw[aT (hm b _ q fun z=>z)];exact q,fun b u xs q=>by rw[aT (hm b _ q fun z=>z)];exact q,fun b ps q=>⟨#[],by rw[aT (hm b _ q fun z=>z),q];simp⟩⟩
 by_cases hbe:b=e
 ·subst hbe;exact heo
 ·exact⟨u,k b u hbe q⟩
end
noncomputable def trk(h:Heap)(H:Hp):List Addr:=(List.range h.objs.size).filter fun a=>(H a).isSome
noncomputable def qd(h:Heap)(H:Hp):Heap:=PySem.W.hideAll h (trk h H)
theorem wn(h:Heap)(H:Hp):(qd h H).objs.size=h.objs.size:=PySem.W.hideAll_size _ _
theorem xB{h:Heap}{H:Hp}{b:Addr}{o:Obj}(e:h.get? b=some o)(n:H b=none):(qd h H).get? b=some o :=
 PySem.W.hideAll_get _ e fun hm=>by
  have q:(H b).isSome=true:=(List.mem_filter.mp hm).2;rw[n]at q;simp at q
theorem Ay{h:Heap}{H:Hp}{b:Addr}{o:Obj}(e:(qd h H).get? b=some o):h.get? b=some o/\H b=none:=by
 have e':h.get? b=some o:=PySem.W.of_hideAll (trk h H) e;refine⟨e',?_⟩;cases q:H b with
 | none=>rfl
 | some x =>
  have hm:b∈trk h H:=List.mem_filter.mpr ⟨Zm.mpr (Heap.lt_size e'),by simp[q]⟩
  have z:(qd h H).get? b=none:=PySem.W.hideAll_none (trk h H) hm;rw[z]at e;cases e
end L2
namespace L2
open PySem PySem.Spec PyProof.Rows
structure Mod(K:PySem.W.Frag)(mg:Str->Option Value)(base:Heap):Prop where
 kin:K.In base
 glob:base.Ns mainGlobals mg
 blt:∃mb,base.Ns builtinsNs mb/\∀x:Str,x≠"__name__"->mb x=bootBuiltins x
 nolimit:base.NoLimit
structure Cx where
 prog:Program
 w:World
 K:PySem.W.Frag
 mg:Str->Option Value
 base:Heap
 A:Around
 N:List Str
 s₀:Shared
 H₀:Hp
 env:Env
 outer:List Env
 stack:List Env
 ex:List Addr
 fn:Str->Bool
 calm:Bool
 pn:List (Addr×Obj)
 xe:Value->Shared->Prop
noncomputable def frs(l:List Env):List Addr:=l.filterMap (·.frame)
noncomputable abbrev Cx.fs(X:Cx):List Addr:=frs X.outer
noncomputable def Vis(sc:Scope)(x:Str):Prop:=sc.names.lookup x=some .local∨sc.names.lookup x=some .cell∨sc.names.lookup x=some .free
noncomputable def Loc(sc:Scope)(x:Str):Prop:=sc.names.lookup x=some .local∨sc.names.lookup x=some .cell
noncomputable def Look(env:Env)(h:Heap)(m:Str->Option Value)(x:Str)(u:Value):Prop :=
 (env.kindOf x=some .local/\m x=some u)∨((env.kindOf x=some .cell∨env.kindOf x=some .free)/\∃c,env.cells.lookup x=some c/\h.IsCell c (some u))
structure Cx.Ok(X:Cx):Prop where
 mod:Mod X.K X.mg X.base
 kind:X.env.scope.kind=.function
 glob:X.env.globals=mainGlobals
 blt:X.env.builtins=builtinsNs
 above:X.s₀.heap.objs.size<=X.env.locals
 inj:∀x y c,X.env.cells.lookup x=some c->X.env.cells.lookup y=some c->x=y
 has:∀x,(X.env.kindOf x=some .cell∨X.env.kindOf x=some .free)->∃c,X.env.cells.lookup x=some c
 cab:∀x c,X.fn x=true->X.env.cells.lookup x=some c->X.s₀.heap.objs.size<=c
 hd:X.calm=true->X.A.handled=none
 frames:X.A.frames=some X.stack
 stk:X.stack=X.outer∨(X.stack=X.env::X.outer/\X.env.frame=some X.env.locals)
 exf:∀b∈X.ex,b≠X.env.locals/\∀x c,X.env.cells.lookup x=some c->c≠b
 bs:∀b o,X.base.get? b=some o->X.s₀.heap.get? b=some o/\X.H₀ b=none
 bsz:X.base.objs.size<=X.s₀.heap.objs.size
 noex:∀b o,X.base.get? b=some o->b∉X.ex
 exfs:∀b∈X.ex,b∉X.fs
 funs:X.s₀.heap.FunFrames X.base X.outer
 frf:∀b∈X.fs,X.H₀ b=none
structure Inv(X:Cx)(pins:List (Addr×Obj))(σ:List (Option V))(H:Hp)(s:Shared):Prop where
 ok:X.Ok
 os:s.os=X.s₀.os
 bare:AllBare s.gens
 base:Un X.fs X.ex X.H₀ H X.s₀.heap s.heap
 loc:∃m,s.heap.Ns X.env.locals m/\∀(i:Nat)(x:Str)(v:V),X.N[i]?=some x->σ[i]?=some (some v)->Vis X.env.scope x->∃u,RelV v u/\Look X.env s.heap m x u
 cell:∀x c,X.env.cells.lookup x=some c->∃v,s.heap.IsCell c v
 free:H X.env.locals=none
 freeC:∀x c,X.env.cells.lookup x=some c->H c=none
 pin:∀p∈X.pn++pins,s.heap.get? p.1=some p.2/\H p.1=none/\p.1≠X.env.locals/\p.1∉X.fs/\∀v,p.2.data≠.cell v
 hok:HOk X.prog X.w H s.heap
 len:σ.length=X.N.length
section
variable {X:Cx}{pins:List (Addr×Obj)}{σ:List (Option V)}{H H':Hp}{s:Shared}{h':Heap}
theorem Cx.Ok.nofr(ok:X.Ok){b:Addr}{o:Obj}(e:X.base.get? b=some o):b∉X.fs:=fun hb=>by
 have:=(ok.funs.mem hb).1;rw[e]at this;cases this
theorem Inv.bs(I:Inv X pins σ H s):∀b o,X.base.get? b=some o->s.heap.get? b=some o/\H b=none:=fun b o e =>
 ⟨I.base.keep b o (I.ok.bs b o e).1 (I.ok.bs b o e).2 (I.ok.nofr e) (I.ok.noex b o e),I.base.free b o (I.ok.bs b o e).1 (I.ok.bs b o e).2 (I.ok.noex b o e)⟩
theorem Inv.bk(I:Inv X pins σ H s):∀b o,X.base.get? b=some o->s.heap.get? b=some o:=fun b o e=>(I.bs b o e).1
theorem Inv.mod(I:Inv X pins σ H s):Mod X.K X.mg X.base:=I.ok.mod
theorem Inv.kIn(I:Inv X pins σ H s):X.K.In s.heap:=I.ok.mod.kin.keeps I.bk
theorem Inv.lt(I:Inv X pins σ H s):X.env.locals<s.heap.objs.size:=let ⟨_,hn,_⟩:=I.loc;hn.lt
theorem Inv.sz(I:Inv X pins σ H s):X.s₀.heap.objs.size<=s.heap.objs.size:=Xe I.ok.above (Zk I.lt)
theorem Inv.nofs(I:Inv X pins σ H s){a:Addr}(h:s.heap.objs.size<=a):a∉X.fs:=fun hb=>by
 obtain⟨_,o,ho,_⟩:=I.ok.funs.mem hb;exact absurd (Zd (Heap.lt_size ho) (Xe I.sz h)) (Wi _)
theorem Inv.cne(I:Inv X pins σ H s):∀x c,X.env.cells.lookup x=some c->c≠X.env.locals:=fun x c e z=>by
 obtain⟨v,o,ho,hd⟩:=I.cell x c e;obtain⟨m,⟨o',es,ep,ho',hd',_⟩,_⟩:=I.loc;rw[z,ho']at ho;cases ho;rw[hd']at hd;cases hd
theorem Inv.funs(I:Inv X pins σ H s):s.heap.FunFrames X.base X.outer:=by
 have all:∀(l:List Env),(∀b∈frs l,b∈X.fs)->X.s₀.heap.FunFrames X.base l->s.heap.FunFrames X.base l:=by
  intro l;induction l with
  | nil=>intro _ _;trivial
  | cons env r ih =>
   intro hs hl;obtain⟨hk,⟨L,o,hf,hn,ho,hd⟩,hr⟩:=hl;have hL:L∈X.fs:=hs L (by unfold frs;rw[List.filterMap_cons,hf];exact Zc)
   obtain⟨sl,e⟩:=I.base.slot L o ho (I.ok.frf L hL) hL fun z=>I.ok.exfs L z hL;exact⟨hk,⟨L,_,hf,hn,e,hd⟩,ih (fun b hb=>hs b (by unfold frs;rw[List.filterMap_cons,hf];exact Xb _ hb)) hr⟩
 exact all X.outer (fun _ hb=>hb) I.ok.funs
theorem Inv.stack(I:Inv X pins σ H s):s.heap.FunFrames X.base X.stack:=by
 rcases I.ok.stk with e|⟨e,hf⟩
 ·rw[e];exact I.funs
 ·rw[e];obtain⟨m,hn,_⟩:=I.loc;refine .cons (by rw[I.ok.kind];decide) hf hn ?_ I.funs
  exact Heap.get?_none_of_le (Xe I.ok.bsz I.ok.above)
theorem Inv.stkSub(I:Inv X pins σ H s):∀b∈frs X.stack,b∈X.env.locals::X.fs:=fun b hb=>by
 rcases I.ok.stk with e|⟨e,hf⟩
 ·rw[e]at hb;exact Xb _ hb
 ·rw[e]at hb;unfold frs at hb;rw[List.filterMap_cons,hf]at hb;exact hb
theorem Inv.stkFree(I:Inv X pins σ H s):∀b∈frs X.stack,H b=none:=fun b hb=>by
 rcases Ze.mp (I.stkSub b hb) with e|hb
 ·rw[e];exact I.free
 ·obtain⟨_,o,ho,_⟩:=I.ok.funs.mem hb;exact I.base.free b o ho (I.ok.frf b hb) fun z=>I.ok.exfs b z hb
theorem Inv.step{g':Array GenState}{t':Nat}{d':Drawn}{ch:List Addr}(I:Inv X pins σ H s)
  (hch:∀b∈ch,(b∈X.ex∨X.s₀.heap.objs.size<=b)/\b≠X.env.locals/\(∀x c,X.env.cells.lookup x=some c->c≠b)/\∀p∈X.pn++pins,p.1≠b)
  (keep:∀b o,b≠X.env.locals->b∉X.fs->b∉ch->s.heap.get? b=some o->H b=none->h'.get? b=some o)
  (slot:∀b o,b≠X.env.locals->b∈X.fs->b∉ch->s.heap.get? b=some o->H b=none->∃sl,h'.get? b=some { o with slots:=sl }) (free:∀b o,b∉ch->s.heap.get? b=some o->H b=none->H' b=none)
  (there:∀b o,b∉ch->s.heap.get? b=some o->∃o',h'.get? b=some o')
  (tups:∀b xs,H b=some (.tup xs)->H' b=some (.tup xs)) (frzs:∀b o u,H b=some (.frz o u)->H' b=some (.frz o u)) (tbls:∀b ps,H b=some (.tbl ps)->∃more,H' b=some (.tbl (ps++more)))
  (ns:∀m,s.heap.Ns X.env.locals m->h'.Ns X.env.locals m) (hok:HOk X.prog X.w H' h') (hg:AllBare g') :
  Inv X pins σ H' { s with heap:=h',gens:=g',drawn:=d',toks:=t' }:=by
 have neL:∀b o,X.s₀.heap.get? b=some o->b≠X.env.locals:=fun b o e=>Zg (Zd (Heap.lt_size e) I.ok.above);have neC:∀b o,X.s₀.heap.get? b=some o->b∉X.ex->b∉ch:=fun b o e hx hb=>by
  rcases(hch b hb).1 with z|z
  ·exact hx z
  ·exact absurd (Zd (Heap.lt_size e) z) (Wi _)
 have cellK:∀x c,X.env.cells.lookup x=some c->∀v,s.heap.IsCell c v->h'.IsCell c v:=fun x c e v ⟨o,ho,hd⟩=>by
  have nch:c∉ch:=fun z=>(hch c z).2.2.1 x c e rfl;by_cases hc:c∈X.fs
  ·obtain⟨sl,q⟩:=slot c o (I.cne x c e) hc nch ho (I.freeC x c e);exact⟨_,q,hd⟩
  ·exact⟨o,keep c o (I.cne x c e) hc nch ho (I.freeC x c e),hd⟩
 refine⟨I.ok,I.os,hg,⟨fun b o e n hb hx=>?_,fun b o e n hb hx=>?_,fun b o e n hx=>?_,fun b o e hx=>?_,fun b xs e=>tups b xs (I.base.tups b xs e),fun b o xs e=>frzs b o xs (I.base.frzs b o xs e),fun b ps e=>?_⟩,?_,fun x c e=>?_,?_,fun x c e=>?_,fun p hp=>?_,hok,I.len⟩
 ·exact keep b o (neL b o e) hb (neC b o e hx) (I.base.keep b o e n hb hx) (I.base.free b o e n hx)
 ·obtain⟨sl,e1⟩:=I.base.slot b o e n hb hx;obtain⟨sl',e2⟩:=slot b _ (neL b o e) hb (neC b o e hx) e1 (I.base.free b o e n hx);exact⟨sl',e2⟩
 ·obtain⟨o',e1⟩:=I.base.there b o e hx;exact free b o' (neC b o e hx) e1 (I.base.free b o e n hx)
 ·obtain⟨o',e1⟩:=I.base.there b o e hx;exact there b o' (neC b o e hx) e1
 ·obtain⟨m1,e1⟩:=I.base.tbls b ps e;obtain⟨m2,e2⟩:=tbls b _ e1;exact⟨m1++m2,by rw[e2,Array.append_assoc]⟩
 ·obtain⟨m,hn,hl⟩:=I.loc;refine⟨m,ns m hn,fun i x v e1 e2 e3=>?_⟩;obtain⟨u,r,l⟩:=hl i x v e1 e2 e3;refine⟨u,r,?_⟩;rcases l with l|⟨k,c,e,z⟩
  ·exact .inl l
  ·exact .inr ⟨k,c,e,cellK x c e _ z⟩
 ·obtain⟨v,z⟩:=I.cell x c e;exact⟨v,cellK x c e v z⟩
 ·obtain⟨m,⟨o,_,_,ho,_⟩,_⟩:=I.loc;exact free _ o (fun z=>(hch _ z).2.1 rfl) ho I.free
 ·obtain⟨v,o,ho,hd⟩:=I.cell x c e;exact free c o (fun z=>(hch c z).2.2.1 x c e rfl) ho (I.freeC x c e)
 ·obtain⟨e,n,ne,nf,d⟩:=I.pin p hp;have nch:p.1∉ch:=fun z=>(hch p.1 z).2.2.2 p hp rfl;exact⟨keep p.1 p.2 ne nf nch e n,free p.1 p.2 nch e n,ne,nf,d⟩
theorem Inv.un{t':Nat}(I:Inv X pins σ H s)(u:Un X.fs [] H H' s.heap h')(hok:HOk X.prog X.w H' h'):Inv X pins σ H' { s with heap:=h',toks:=t' }:=by
 obtain⟨m,⟨o,es,ep,ho,r⟩,_⟩:=id I.loc;obtain⟨sl,hL⟩:=u.any ho I.free (by simp)
 exact I.step (g':=s.gens) (d':=s.drawn) (ch:=[]) (fun _ z=>nomatch z) (fun b o _ hb _ e n=>u.keep b o e n hb (by simp)) (fun b o _ hb _ e n=>u.slot b o e n hb (by simp)) (fun b o _ e n=>u.free b o e n (by simp)) (fun b o _ e=>u.there b o e (by simp)) u.tups u.frzs u.tbls (fun m' hm=>by
  obtain⟨o',es',ep',ho',r'⟩:=hm;rw[ho]at ho';cases ho'
  exact⟨_,es',ep',hL,r'⟩) hok I.bare
theorem Inv.call{g':Array GenState}{t':Nat}{d':Drawn}{ch:List Addr}(I:Inv X pins σ H s)(u:Un (frs X.stack) ch H H' s.heap h')(hok:HOk X.prog X.w H' h')(hg:AllBare g')
  (hch:∀b∈ch,(b∈X.ex∨X.s₀.heap.objs.size<=b)/\b≠X.env.locals/\(∀x c,X.env.cells.lookup x=some c->c≠b)/\∀p∈X.pn++pins,p.1≠b) :
  Inv X pins σ H' { s with heap:=h',gens:=g',drawn:=d',toks:=t' }:=by
 obtain⟨m,⟨o,es,ep,ho,r⟩,_⟩:=id I.loc;obtain⟨sl,hL⟩:=u.any ho I.free fun z=>(hch _ z).2.1 rfl
 exact I.step (ch:=ch) hch (fun b o hL hb hc e n=>u.keep b o e n (fun z=>(Ze.mp (I.stkSub b z)).elim hL hb) hc) (fun b o _ _ hc e n=>u.any e n hc) (fun b o hc e n=>u.free b o e n hc) (fun b o hc e=>u.there b o e hc) u.tups u.frzs u.tbls (fun m' hm=>by
  obtain⟨o',es',ep',ho',r'⟩:=hm;rw[ho]at ho';cases ho'
  exact⟨_,es',ep',hL,r'⟩) hok hg
theorem Inv.turned{t':Nat}{it:Addr}(I:Inv X pins σ H s)(k:∀b o,b≠it->s.heap.get? b=some o->h'.get? b=some o)(hn:H it=none)(hL:it≠X.env.locals)
  (h1:it∈X.ex∨X.s₀.heap.objs.size<=it)(h2:∀x c,X.env.cells.lookup x=some c->c≠it)(h3:∀p∈X.pn++pins,p.1≠it):Inv X pins σ H { s with heap:=h',toks:=t' }:=by
 have nit:∀b u,H b=some u->b≠it:=fun b u e z=>by rw[z,hn]at e;cases e
 refine I.step (g':=s.gens) (d':=s.drawn) (ch:=[it]) (fun b hb=>?_) (fun b o _ _ hc e _=>k b o (fun z=>hc (by simp[z])) e) (fun b o _ _ hc e _=>⟨o.slots,k b o (fun z=>hc (by simp[z])) e⟩) (fun _ _ _ _ n=>n)
  (fun b o hc e=>⟨o,k b o (fun z=>hc (by simp[z])) e⟩) (fun _ _ e=>e) (fun _ _ _ e=>e) (fun b ps e=>⟨#[],by rw[e];simp⟩) (fun m hm=>?_) (fun b u e=>?_) I.bare
 ·have e:b=it:=by simpa using hb
  subst e;exact⟨h1,hL,h2,h3⟩
 ·obtain⟨o,es,ep,ho,r⟩:=hm;exact⟨o,es,ep,k _ o (Ne.symm hL) ho,r⟩
 ·refine(I.hok b u e).stay (fun c v hc q=>k c v ?_ q) (fun _ q=>q) fun _ _ q=>q;rcases hc with z|z
  ·rw[z];exact nit b u e
  ·exact nit c _ z
theorem Inv.tok(I:Inv X pins σ H s)(t:Nat):Inv X pins σ H { s with toks:=t }:=I.un (h':=s.heap) (t':=t) Un.refl I.hok
theorem Inv.kept{t':Nat}(I:Inv X pins σ H s)(k:∀b u,s.heap.get? b=some u->h'.get? b=some u):Inv X pins σ H { s with heap:=h',toks:=t' }:=I.un (Un.kept k) (I.hok.kept k)
theorem Inv.laid{a:Addr}{o:HO}{t':Nat}(I:Inv X pins σ H s)(k:∀b u,s.heap.get? b=some u->h'.get? b=some u)(hp:s.heap.objs.size<=a)(new:ObjOk X.prog X.w (upd H a o) h' a o) :
  Inv X pins σ (upd H a o) { s with heap:=h',toks:=t' }:=I.un (Un.laid k hp (I.hok.fresh hp)) (I.hok.laid k hp new)
theorem Inv.write{x e:Addr}{o:HO}{t':Nat}(I:Inv X pins σ H s)(mu:Mut (H x))(he:e=x∨H e=some (.own x))(k:∀b u,b≠e->s.heap.get? b=some u->h'.get? b=some u)(heo:∃u,h'.get? e=some u)
  (new:ObjOk X.prog X.w (upd H x o) h' x o):Inv X pins σ (upd H x o) { s with heap:=h',toks:=t' }:=I.un (Un.write mu he k heo) (I.hok.write mu he k heo new)
theorem Inv.weak{σ':List (Option V)}(I:Inv X pins σ H s)(hl:σ'.length=σ.length)(w:∀(i:Nat) v,σ'[i]?=some (some v)->σ[i]?=some (some v)):Inv X pins σ' H s :=
 ⟨I.ok,I.os,I.bare,I.base,let ⟨m,hn,hl'⟩:=I.loc;⟨m,hn,fun i x v e1 e2 e3=>hl' i x v e1 (w i v e2) e3⟩,I.cell,I.free,I.freeC,I.pin,I.hok,hl.trans I.len⟩
theorem Inv.pins_of{pins':List (Addr×Obj)}(I:Inv X pins σ H s)(h:∀p∈pins',s.heap.get? p.1=some p.2/\H p.1=none/\p.1≠X.env.locals/\p.1∉X.fs/\∀v,p.2.data≠.cell v):Inv X pins' σ H s :=
 ⟨I.ok,I.os,I.bare,I.base,I.loc,I.cell,I.free,I.freeC,fun p hp=>(Xc.mp hp).elim (fun z=>I.pin p (Vi _ z)) (h p),I.hok,I.len⟩
theorem rD{N:List Str}(hN:N.Nodup){i j:Nat}{x:Str}(a:N[i]?=some x)(b:N[j]?=some x):i=j:=by
 obtain⟨h1,e1⟩:=Yb.mp a;obtain⟨h2,e2⟩:=Yb.mp b;exact(List.getElem_inj hN).mp (e1.trans e2.symm)
theorem o8{M:Model}{A:Around}{E:Value->Shared->Prop}{i:Nat}{x:Str}{v:V}{u:Value}{Q:Unit->Shared->Prop}(I:Inv X pins σ H s)(hN:X.N.Nodup)(hi:X.N[i]?=some x)(hx:Loc X.env.scope x)(r:RelV v u)
  (h:∀s',Inv X pins (σ.set i (some v)) H s'->(∃a,Heap.SameBut a s.heap s'.heap/\(a=X.env.locals∨X.env.cells.lookup x=some a))->Q () s')(hf:X.fn x=true∨X.env.scope.names.lookup x=some .local:=by first|exact .inl rfl|exact .inr rfl|assumption):wpAny M A (storeName X.env x u) Q E s:=by
 obtain⟨m,hn,hl⟩:=id I.loc;have hcls:(X.env.scope.kind == .class||(X.env.scope.kind == .module&&X.env.locals != X.env.globals))=false:=by rw[I.ok.kind];rfl
 have hiσ:i<σ.length:=by rw[I.len];exact(Yb.mp hi).1
 have cne:=I.cne;have tracked:∀{a:Addr}{h':Heap},(∃o,s.heap.get? a=some o/\H a=none)->Heap.SameBut a s.heap h'->HOk X.prog X.w H h':=fun {a h'} ha hs b ob e=>by
  obtain⟨_,_,hfree⟩:=ha;refine(I.hok b ob e).stay (fun c w' hc q=>(hs.2 c ?_).trans q) (fun _ q=>q) fun _ _ q=>q;rintro rfl;rcases hc with rfl|hc
  ·rw[hfree]at e;cases e
  ·rw[hfree]at hc;cases hc
 rcases hx with hk|hk
 ·refine wpAny_storeName_local hk hn (fun h' hn' hs=>?_) hcls;obtain⟨oL,_,_,hoL,_⟩:=id hn;refine h _ ⟨I.ok,I.os,I.bare,⟨fun b o e n hb hx=>?_,fun b o e n hb hx=>?_,I.base.free,fun b o e hx=>?_,I.base.tups,I.base.frzs,I.base.tbls⟩,⟨_,hn',fun j y v' e1 e2 e3=>?_⟩,fun y c e=>?_,I.free,I.freeC,fun p hp=>?_,tracked ⟨oL,hoL,I.free⟩ hs,by simpa using I.len⟩ ⟨_,hs,.inl rfl⟩
  ·exact(hs.2 b (Zg (Zd (Heap.lt_size e) I.ok.above))).trans (I.base.keep b o e n hb hx)
  ·obtain⟨sl,e1⟩:=I.base.slot b o e n hb hx;exact⟨sl,(hs.2 b (Zg (Zd (Heap.lt_size e) I.ok.above))).trans e1⟩
  ·obtain⟨o',e1⟩:=I.base.there b o e hx;exact⟨o',(hs.2 b (Zg (Zd (Heap.lt_size e) I.ok.above))).trans e1⟩
  ·by_cases hj:j=i
   ·subst hj;rw[hi]at e1;cases e1;rw[List.getElem?_set_self hiσ]at e2;cases e2;exact⟨u,r,.inl ⟨hk,by simp⟩⟩
   ·rw[List.getElem?_set_ne (Ne.symm hj)]at e2;obtain⟨u',r',q⟩:=hl j y v' e1 e2 e3;refine⟨u',r',?_⟩;rcases q with⟨k,e⟩|⟨k,c,e,z⟩
    ·refine .inl ⟨k,?_⟩;have:y≠x:=fun e=>hj (rD hN e1 (e ▸ hi));simp[this,e]
    ·exact .inr ⟨k,c,e,z.sameBut hs (cne y c e)⟩
  ·obtain⟨w',z⟩:=I.cell y c e;exact⟨w',z.sameBut hs (cne y c e)⟩
  ·obtain⟨e,n,ne,nf,d⟩:=I.pin p hp;exact⟨(hs.2 p.1 ne).trans e,n,ne,nf,d⟩
 ·have hfn:X.fn x=true:=by
   rcases hf with z|z
   ·exact z
   ·rw[z]at hk;cases hk
  obtain⟨c,hc⟩:=I.ok.has x (.inl hk);obtain⟨w',z⟩:=I.cell x c hc;refine wpAny_storeName_cell I.ok.kind hk hc z (fun h' hc' hs=>?_);obtain⟨oc,hoc,hocd⟩:=id z;refine h { s with heap:=h' } ⟨I.ok,I.os,I.bare,⟨fun b o e n hb hx=>?_,fun b o e n hb hx=>?_,I.base.free,fun b o e hx=>?_,I.base.tups,I.base.frzs,I.base.tbls⟩,⟨m,hn.sameBut hs (Ne.symm (cne x c hc)),fun j y v' e1 e2 e3=>?_⟩,fun y c' e=>?_,I.free,I.freeC,fun p hp=>?_,tracked ⟨oc,hoc,I.freeC x c hc⟩ hs,by simpa using I.len⟩ ⟨c,hs,.inr hc⟩
  ·exact(hs.2 b (Zg (Zd (Heap.lt_size e) (I.ok.cab x c hfn hc)))).trans (I.base.keep b o e n hb hx)
  ·obtain⟨sl,e1⟩:=I.base.slot b o e n hb hx;exact⟨sl,(hs.2 b (Zg (Zd (Heap.lt_size e) (I.ok.cab x c hfn hc)))).trans e1⟩
  ·obtain⟨o',e1⟩:=I.base.there b o e hx;exact⟨o',(hs.2 b (Zg (Zd (Heap.lt_size e) (I.ok.cab x c hfn hc)))).trans e1⟩
  ·by_cases hj:j=i
   ·subst hj;rw[hi]at e1;cases e1;rw[List.getElem?_set_self hiσ]at e2;cases e2;exact⟨u,r,.inr ⟨.inl hk,c,hc,hc'⟩⟩
   ·rw[List.getElem?_set_ne (Ne.symm hj)]at e2;obtain⟨u',r',q⟩:=hl j y v' e1 e2 e3;refine⟨u',r',?_⟩;rcases q with q|⟨k,c',e,z'⟩
    ·exact .inl q
    ·refine .inr ⟨k,c',e,z'.sameBut hs ?_⟩;rintro rfl;exact hj (rD hN e1 (I.ok.inj _ _ _ e hc ▸ hi))
  ·by_cases hcc:c'=c
   ·subst hcc;exact⟨_,hc'⟩
   ·obtain⟨w2,z2⟩:=I.cell y c' e;exact⟨w2,z2.sameBut hs hcc⟩
  ·obtain⟨e,n,ne,nf,d⟩:=I.pin p hp;refine⟨(hs.2 p.1 ?_).trans e,n,ne,nf,d⟩;intro q;rw[q,hoc]at e;have q':oc=p.2:=Option.some.inj e;exact d w' (by rw[← q'];exact hocd)
theorem xC{M:Model}{A:Around}{E:Value->Shared->Prop}{i:Nat}{x:Str}{v:V}{u:Value}{Q:Unit->Shared->Prop}(I:Inv X pins σ H s)(hN:X.N.Nodup)(hi:X.N[i]?=some x)(hx:Loc X.env.scope x)(r:RelV v u)
  (h:∀s',Inv X pins (σ.set i (some v)) H s'->Q () s')(hf:X.fn x=true∨X.env.scope.names.lookup x=some .local:=by first|exact .inl rfl|exact .inr rfl|assumption):wpAny M A (storeName X.env x u) Q E s :=
 o8 I hN hi hx r (fun s' I' _=>h s' I') hf
theorem Inv.call'{s':Shared}{ch:List Addr}(I:Inv X pins σ H s)(ho:s'.os=s.os)(u:Un (frs X.stack) ch H H' s.heap s'.heap)(hok:HOk X.prog X.w H' s'.heap)(hg:AllBare s'.gens)
  (hch:∀b∈ch,(b∈X.ex∨X.s₀.heap.objs.size<=b)/\b≠X.env.locals/\(∀x c,X.env.cells.lookup x=some c->c≠b)/\∀p∈X.pn++pins,p.1≠b):Inv X pins σ H' s':=by
 obtain⟨h',g',d',t',o'⟩:=s';have e:o'=s.os:=ho;subst e;exact I.call (g':=g') (t':=t') (d':=d') u hok hg hch
end
noncomputable abbrev XK:=Value->Option Addr->Hp->Prop
noncomputable abbrev St:=List (Option V)
noncomputable abbrev VK:=V->Hp->Prop
noncomputable abbrev TE:=St->Hp->VK->Prop
noncomputable abbrev TT:=St->Hp->(Bool->Hp->Prop)->Prop
noncomputable abbrev TA:=St->Hp->(List V->Hp->Prop)->Prop
structure Ends where
 nx:St->Hp->Prop
 rt:VK
 bk:St->Hp->Prop:=fun _ _=>False
 ct:St->Hp->Prop:=fun _ _=>False
noncomputable abbrev TS:=Ends->St->Hp->Prop
inductive EP(X:Cx)(pins:List (Addr×Obj))(σ:St)(Q:VK)(u:Value)(s':Shared):Prop
 | mk (v:V) (H':Hp) (I:Inv X pins σ H' s') (r:RelV v u) (q:Q v H')
noncomputable def TP(X:Cx)(pins:List (Addr×Obj))(σ:St)(Q:Bool->Hp->Prop)(b:Bool)(s':Shared):Prop:=∃H',Inv X pins σ H' s'/\Q b H'
inductive AP(X:Cx)(pins:List (Addr×Obj))(σ:St)(Q:List V->Hp->Prop)(us:List Value)(s':Shared):Prop
 | mk (vs:List V) (H':Hp) (I:Inv X pins σ H' s') (r:Vals vs us) (q:Q vs H')
noncomputable def SP(X:Cx)(pins:List (Addr×Obj))(D:Ends)(f:Flow)(s':Shared):Prop :=
 match f with
 | .next=>∃σ' H',Inv X pins σ' H' s'/\D.nx σ' H'
 | .brk=>∃σ' H',Inv X pins σ' H' s'/\D.bk σ' H'
 | .cont=>∃σ' H',Inv X pins σ' H' s'/\D.ct σ' H'
 | .ret u=>∃v σ' H',Inv X pins σ' H' s'/\RelV v u/\D.rt v H'
noncomputable def PE(X:Cx)(e:Expr)(t:TE):Prop :=
 ∀(pins:List (Addr×Obj))(s:Shared)(σ:St)(H:Hp)(Q:VK),Inv X pins σ H s->t σ H Q->wpAny (model X.prog X.w) X.A (eval e X.env) (EP X pins σ Q) X.xe s
noncomputable def PT(X:Cx)(e:Expr)(t:TT):Prop :=
 ∀(pins:List (Addr×Obj))(s:Shared)(σ:St)(H:Hp)(Q:Bool->Hp->Prop),Inv X pins σ H s->t σ H Q->wpAny (model X.prog X.w) X.A (isTrue e X.env (eval e X.env)) (TP X pins σ Q) X.xe s
noncomputable def PW(X:Cx)(e:Expr)(t:TT):Prop :=
 ∀(whole:Sem Value)(pins:List (Addr×Obj))(s:Shared)(σ:St)(H:Hp)(Q:Bool->Hp->Prop),Inv X pins σ H s->t σ H Q->wpAny (model X.prog X.w) X.A (isTrue e X.env whole) (TP X pins σ Q) X.xe s
theorem PW.pt{X:Cx}{e:Expr}{t:TT}(h:PW X e t):PT X e t:=h _
noncomputable def PA(X:Cx)(es:List Expr)(t:TA):Prop :=
 ∀(pos:Pos)(pins:List (Addr×Obj))(s:Shared)(σ:St)(H:Hp)(Q:List V->Hp->Prop),Inv X pins σ H s->t σ H Q->wpAny (model X.prog X.w) X.A (spliced (backTo pos (starEach es X.env))) (AP X pins σ Q) X.xe s
noncomputable def PS(X:Cx)(st:Stmt)(t:TS):Prop :=
 ∀(pins:List (Addr×Obj))(s:Shared)(σ:St)(H:Hp)(D:Ends),Inv X pins σ H s->t D σ H->wpAny (model X.prog X.w) X.A (exec st X.env) (SP X pins D) X.xe s
noncomputable def PSs(X:Cx)(st:List Stmt)(t:TS):Prop :=
 ∀(pins:List (Addr×Obj))(s:Shared)(σ:St)(H:Hp)(D:Ends),Inv X pins σ H s->t D σ H->wpAny (model X.prog X.w) X.A (execs st X.env) (SP X pins D) X.xe s
theorem thn{α:Type}{t:Sem α}{Q Q':α->Shared->Prop}{M:Model}{A:Around}{E:Value->Shared->Prop}{s:Shared}(h:wpAny M A t Q E s)(hQ:∀a s,Q a s->Q' a s):wpAny M A t Q' E s:=wpAny_mono h hQ fun _ _ x=>x
end L2
namespace L2
open PySem PySem.Spec PyProof.Rows
section
variable {X:Cx}
noncomputable def tK(i:Nat):TE:=fun σ H Q=>∃v,σ[i]?=some (some v)/\Q v H
noncomputable def tC(v:V):TE:=fun _ H Q=>Q v H
theorem C4{i:Nat}{x:Str}{pos:Pos}(hN:X.N[i]?=some x)(hv:Vis X.env.scope x)(hd:(x == ("__debug__":Str))=false:=by decide)(hcd:(x == ("__classdict__":Str))=false:=by decide):PE X (.Name x pos) (tK i):=by
 intro pins s σ H Q I h;obtain⟨v,e,h⟩:=h;obtain⟨m,hn,hl⟩:=I.loc;obtain⟨u,r,l⟩:=hl i x v hN e hv;have fin:EP X pins σ Q u s:=⟨v,H,I,r,h⟩;rcases l with⟨hk,hm⟩|⟨hk,c,hc,hcell⟩
 ·exact wpAny_Name (wpAny_loadName_local I.ok.kind hk hn hm fin) hd
 ·rcases hk with hk|hk
  ·exact wpAny_Name (wpAny_loadName_cell I.ok.kind hk hc hcell fin) hd
  ·exact wpAny_Name (wpAny_loadName_free I.ok.kind hk hc hcell fin hcd) hd
theorem aj{i j pos}:PE X (.Constant (.int i) j pos) (tC (.int i)):=fun _ _ _ H _ I h=>wpAny_Constant_int ⟨.int i,H,I.tok _,⟨_,rfl⟩,h⟩
theorem gm{b j pos}:PE X (.Constant (.bool b) j pos) (tC (.bl b)):=fun _ _ _ H _ I h=>Constant_bool ⟨.bl b,H,I,rfl,h⟩
theorem jL{j pos}:PE X (.Constant .none j pos) (tC .non):=fun _ _ _ H _ I h=>Constant_none ⟨.non,H,I,rfl,h⟩
theorem bT{x j pos}:PE X (.Constant (.str x) j pos) (tC (.str x)):=fun _ _ _ H _ I h=>Calls.Constant_str ⟨.str x,H,I.tok _,⟨_,rfl⟩,h⟩
noncomputable def Gl(X:Cx)(x:Str):Prop:=X.env.kindOf x=some .globalImplicit
theorem uN{E:Value->Shared->Prop}{pins:List (Addr×Obj)}{s:Shared}{σ:St}{H:Hp}{x:Str}{u:Value}{pos:Pos}{Q:Value->Shared->Prop}(I:Inv X pins σ H s)(hg:Gl X x)(hm:X.mg x=some u)(h:Q u s)
  (hd:(x == ("__debug__":Str))=false:=by decide):wpAny (model X.prog X.w) X.A (eval (.Name x pos) X.env) Q E s :=
 Calls.Name_function_global I.ok.kind hg (Calls.loadGlobal_global (by rw[I.ok.glob];exact I.mod.glob.keeps I.bk) hm h) hd
theorem jM{E:Value->Shared->Prop}{pins:List (Addr×Obj)}{s:Shared}{σ:St}{H:Hp}{x:Str}{u:Value}{pos:Pos}{Q:Value->Shared->Prop}(I:Inv X pins σ H s)(hg:Gl X x)(hm:X.mg x=none)(hv:bootBuiltins x=some u)(h:Q u s)
  (hn:x≠"__name__":=by decide)(hd:(x == ("__debug__":Str))=false:=by decide):wpAny (model X.prog X.w) X.A (eval (.Name x pos) X.env) Q E s:=by
 obtain⟨mb,h1,h2⟩:=I.mod.blt;exact Calls.Name_function_global I.ok.kind hg (Calls.loadGlobal_builtin (by rw[I.ok.glob];exact I.mod.glob.keeps I.bk) hm (by rw[I.ok.blt];exact h1.keeps I.bk) ((h2 x hn).trans hv) h) hd
theorem Az{x:Str}{v:V}{u:Value}{pos:Pos}(hg:Gl X x)(hm:X.mg x=none)(hv:bootBuiltins x=some u)(r:RelV v u)(hn:x≠"__name__":=by decide)(hd:(x == ("__debug__":Str))=false:=by decide):PE X (.Name x pos) (tC v) :=
 fun _ _ _ H _ I h=>jM I hg hm hv ⟨v,H,I,r,h⟩ hn hd
variable {a b:Expr}{ta tb:TE}{pos:Pos}
noncomputable def tB(t:TE):TT:=fun σ H Q=>t σ H fun x H1=>∃c,x=.bl c/\Q c H1
theorem dA{e:Expr}{t:TE}(h:PE X e t)(he:∀whole,isTrue e X.env whole=(do let v ← whole;standAt e.pos;holding [v] (truthy v)):=by intro _;rfl):PT X e (tB t):=by
 intro pins s σ H Q I hw;refine isTrue_plain (thn (h pins s σ H _ I hw) fun v s1 zz9=>?_) (he _);obtain⟨x,H1,I1,r1,q1⟩:=zz9;obtain⟨d,rfl,q⟩:=q1;cases r1;exact wpAny_truthy_bool ⟨H1,I1,q⟩
variable {tA tB':TT}{rest:List Expr}
noncomputable def EX(t u:TT):TT:=fun σ H Q=>t σ H fun c H1=>if c=true then u σ H1 Q else Q false H1
noncomputable def tOr(t u:TT):TT:=fun σ H Q=>t σ H fun c H1=>if c=true then Q true H1 else u σ H1 Q
noncomputable def EY(t:TT):TT:=fun σ H Q=>t σ H fun c H1=>Q (!c) H1
theorem jb(ha:PT X a tA):PW X (.BoolOp .And [a] pos) tA:=by
 intro wh pins s σ H Q I h;refine isTrue_and (thn (ha pins s σ H Q I h) fun c s1 e=>?_);cases c with
 | true=>exact isTrue_and_nil e
 | false=>exact e
theorem lA(ha:PT X a tA):PW X (.BoolOp .Or [a] pos) tA:=by
 intro wh pins s σ H Q I h;refine isTrue_or (thn (ha pins s σ H Q I h) fun c s1 e=>?_);cases c with
 | false=>exact isTrue_or_nil e
 | true=>exact e
theorem iy(ha:PT X a tA)(hb:PW X (.BoolOp .And (b::rest) pos) tB'):PW X (.BoolOp .And (a::b::rest) pos) (EX tA tB'):=by
 intro wh pins s σ H Q I h;refine isTrue_and (thn (ha pins s σ H _ I h) fun c s1 zz9=>?_);obtain⟨H1,I1,q1⟩:=zz9;cases c with
 | true=>exact hb wh pins s1 σ H1 Q I1 q1
 | false=>exact⟨H1,I1,q1⟩
theorem ni(ha:PT X a tA)(hb:PW X (.BoolOp .Or (b::rest) pos) tB'):PW X (.BoolOp .Or (a::b::rest) pos) (tOr tA tB'):=by
 intro wh pins s σ H Q I h;refine isTrue_or (thn (ha pins s σ H _ I h) fun c s1 zz9=>?_);obtain⟨H1,I1,q1⟩:=zz9;cases c with
 | true=>exact⟨H1,I1,q1⟩
 | false=>exact hb wh pins s1 σ H1 Q I1 q1
theorem jN(ha:PT X a tA):PT X (.UnaryOp .Not a pos) (EY tA):=by
 intro pins s σ H Q I h;exact isTrue_not (ha pins s σ H (fun c H1=>Q (!c) H1) I h)
noncomputable def B7(ta tb:TE):TE:=fun σ H Q=>ta σ H fun x H1=>∃c,x=.bl c/\if c=true then tb σ H1 Q else Q (.bl false) H1
theorem nq{op}{t:TE}(h:PE X a t):PE X (.BoolOp op [a] pos) t:=fun pins s σ H Q I hw=>BoolOp_one (h pins s σ H Q I hw)
theorem lB(ha:PE X a ta)(hb:PE X (.BoolOp .And (b::rest) pos) tb):PE X (.BoolOp .And (a::b::rest) pos) (B7 ta tb):=by
 intro pins s σ H Q I h;refine BoolOp_and (thn (ha pins s σ H _ I h) fun v s1 zz9=>?_);obtain⟨x,H1,I1,r1,q1⟩:=zz9;obtain⟨c,rfl,q1⟩:=q1;cases r1;refine wpAny_truthy_bool ?_;cases c with
 | true=>exact hb pins s1 σ H1 Q I1 q1
 | false=>exact⟨.bl false,H1,I1,rfl,q1⟩
noncomputable def tIf(t:TT)(ta tb:TE):TE:=fun σ H Q=>t σ H fun c H1=>if c=true then ta σ H1 Q else tb σ H1 Q
theorem dN{c:Expr}(hc:PT X c tA)(ha:PE X a ta)(hb:PE X b tb):PE X (.IfExp c a b pos) (tIf tA ta tb):=by
 intro pins s σ H Q I h;refine wpAny_IfExp (thn (hc pins s σ H _ I h) fun d s1 zz9=>?_);obtain⟨H1,I1,q1⟩:=zz9;cases d with
 | true=>exact ha pins s1 σ H1 Q I1 q1
 | false=>exact hb pins s1 σ H1 Q I1 q1
end
end L2
namespace L2
open PySem PySem.Spec PyProof.Rows
noncomputable def SqL(K:PySem.W.Frag)(H:Hp)(a:Addr)(xs:List V):Prop :=
 Rd H a (.lst xs) ∨
  ∃(o:Obj)(its:Array Value)(n:Nat),K.lookup a=some o/\o.cls=.type "list"/\o.dict=none/\o.data=.seq its n/\its.size<=sizeLine/\Vals xs its.toList
noncomputable def SqT(K:PySem.W.Frag)(H:Hp)(a:Addr)(xs:List V):Prop :=
 Rd H a (.tup xs) ∨
  ∃(o:Obj)(its:Array Value)(n:Nat),K.lookup a=some o/\o.cls=.type "tuple"/\o.data=.seq its n/\its.size<=sizeLine/\Vals xs its.toList
noncomputable def GP:Value->Option V
 | .none=>some .non
 | .bool b=>some (.bl b)
 | .int i _=>some (.int i)
 | .str x _=>some (.str x)
 | .bytes b _=>some (.byt b)
 | .float b _=>some (.flt b)
 | .ref a=>some (.ref a)
 | .type n=>some (.ty n)
 | _=>none
theorem RelV.abs{x:V}{u:Value}(r:RelV x u):GP u=some x:=by
 cases x with
 | non=>cases r;rfl
 | bl _=>cases r;rfl
 | int _=>obtain⟨t,rfl⟩:=r;rfl
 | str _=>obtain⟨t,rfl⟩:=r;rfl
 | byt _=>obtain⟨t,rfl⟩:=r;rfl
 | flt _=>obtain⟨t,rfl⟩:=r;rfl
 | ref _=>cases r;rfl
 | ty _=>cases r;rfl
theorem RelV.inj{x y:V}{u:Value}(r:RelV x u)(q:RelV y u):x=y:=Option.some.inj (r.abs.symm.trans q.abs)
theorem Vals.inj:∀{xs ys:List V}{us:List Value},Vals xs us->Vals ys us->xs=ys
 | _,_,_,.nil,.nil=>rfl
 | _,_,_,.cons r t,.cons r' t'=>by rw[r.inj r',Vals.inj t t']
section
variable {X:Cx}{pins:List (Addr×Obj)}{σ:St}{H:Hp}{s:Shared}{a:Addr}{xs ys:List V}
theorem Inv.list(I:Inv X pins σ H s)(h:SqL X.K H a xs):∃its:List Value,Vals xs its/\PlainL s.heap a its.toArray/\xs.length<=sizeLine:=by
 rcases h with h|⟨o,its,n,hk,hc,hd,hs,hz,r⟩
 ·obtain⟨z,its,n,r,e⟩:=h.ok I.hok;exact⟨its,r,⟨_,n,e,rfl,rfl,rfl⟩,z⟩
 ·refine⟨its.toList,r,⟨o,n,I.kIn a o hk,hc,hd,by simpa using hs⟩,?_⟩
  have e:=r.length;simp only[Yc]at e;lia
theorem Inv.tuple(I:Inv X pins σ H s)(h:SqT X.K H a xs):∃its:List Value,Vals xs its/\IsTup s.heap a its.toArray/\xs.length<=sizeLine:=by
 rcases h with h|⟨o,its,n,hk,hc,hs,hz,r⟩
 ·obtain⟨z,its,r,p⟩:=h.ok I.hok;exact⟨its,r,p,z⟩
 ·refine⟨its.toList,r,⟨o,I.kIn a o hk,hc,n,by simpa using hs⟩,?_⟩
  have e:=r.length;simp only[Yc]at e;lia
theorem Inv.list_inj(I:Inv X pins σ H s)(h:SqL X.K H a xs)(h':SqL X.K H a ys):xs=ys:=by
 obtain⟨its,r,⟨o,n,e,_,_,d⟩,_⟩:=I.list h;obtain⟨its',r',⟨o',n',e',_,_,d'⟩,_⟩:=I.list h';rw[e]at e';cases e';rw[d]at d';injection d' with d1 _;have:its=its':=by simpa using congrArg Array.toList d1
 subst this;exact r.inj r'
theorem Inv.tuple_inj(I:Inv X pins σ H s)(h:SqT X.K H a xs)(h':SqT X.K H a ys):xs=ys:=by
 obtain⟨its,r,⟨o,e,_,n,d⟩,_⟩:=I.tuple h;obtain⟨its',r',⟨o',e',_,n',d'⟩,_⟩:=I.tuple h';rw[e]at e';cases e';rw[d]at d';injection d' with d1 _;have:its=its':=by simpa using congrArg Array.toList d1
 subst this;exact r.inj r'
end
noncomputable abbrev Cx.wish(X:Cx)(E:Value->Shared->Prop):Cx:={ X with xe:=E }
noncomputable abbrev Cx.nox(X:Cx):Cx:=X.wish fun _ _=>False
theorem Cx.Ok.wish{X:Cx}(ok:X.Ok)(E:Value->Shared->Prop):(X.wish E).Ok :=
 ⟨ok.mod,ok.kind,ok.glob,ok.blt,ok.above,ok.inj,ok.has,ok.cab,ok.hd,ok.frames,ok.stk,ok.exf,ok.bs,ok.bsz,ok.noex,ok.exfs,ok.funs,ok.frf⟩
theorem Cx.Ok.unwish{X:Cx}{E:Value->Shared->Prop}(ok:(X.wish E).Ok):X.Ok :=
 ⟨ok.mod,ok.kind,ok.glob,ok.blt,ok.above,ok.inj,ok.has,ok.cab,ok.hd,ok.frames,ok.stk,ok.exf,ok.bs,ok.bsz,ok.noex,ok.exfs,ok.funs,ok.frf⟩
section
variable {X:Cx}{pins:List (Addr×Obj)}{σ:St}{H:Hp}{s:Shared}{E:Value->Shared->Prop}
theorem Inv.wish(I:Inv X pins σ H s)(E:Value->Shared->Prop):Inv (X.wish E) pins σ H s:=⟨I.ok.wish E,I.os,I.bare,I.base,I.loc,I.cell,I.free,I.freeC,I.pin,I.hok,I.len⟩
theorem Inv.unwish(I:Inv (X.wish E) pins σ H s):Inv X pins σ H s:=⟨I.ok.unwish,I.os,I.bare,I.base,I.loc,I.cell,I.free,I.freeC,I.pin,I.hok,I.len⟩
theorem SP.unwish{D:Ends}{f:Flow}{s':Shared}(h:SP (X.wish E) pins D f s'):SP X pins D f s':=by
 cases f with
 | next=>obtain⟨σ',H',I,q⟩:=h;exact⟨σ',H',I.unwish,q⟩
 | brk=>obtain⟨σ',H',I,q⟩:=h;exact⟨σ',H',I.unwish,q⟩
 | cont=>obtain⟨σ',H',I,q⟩:=h;exact⟨σ',H',I.unwish,q⟩
 | ret u=>obtain⟨v,σ',H',I,r,q⟩:=h;exact⟨v,σ',H',I.unwish,r,q⟩
theorem PSs.nox{st:List Stmt}{t:TS}(h:PSs X.nox st t):PSs X st t:=fun pins s σ H D I hw =>
 wpAny_mono (h pins s σ H D (I.wish _) hw) (fun _ _ q=>q.unwish) fun _ _ z=>False.elim z
end
section
variable {X:Cx}{st:Stmt}{rest:List Stmt}{t u:TS}{e:Expr}{te:TE}{pos:Pos}
noncomputable def B8:TS:=fun D σ H=>D.nx σ H
noncomputable def EZ(t u:TS):TS:=fun D σ H=>t { D with nx:=u D } σ H
theorem bz:PSs X [] B8:=fun _ _ σ H _ I h=>wpAny_execs_nil ⟨σ,H,I,h⟩
theorem aq(h1:PS X st t)(h2:PSs X rest u):PSs X (st::rest) (EZ t u):=by
 intro pins s σ H D I h;refine wpAny_execs_cons (thn (h1 pins s σ H { D with nx:=u D } I h) fun f s1 q=>?_);cases f with
 | next =>
  obtain⟨σ',H',I',q⟩:=q;exact h2 pins s1 σ' H' D I' q
 | ret v=>exact q
 | brk=>exact q
 | cont=>exact q
theorem aA(h1:PS X st t):PSs X [st] t:=by
 intro pins s σ H D I h;refine wpAny_execs_cons (thn (h1 pins s σ H D I h) fun f s1 q=>?_);cases f with
 | next=>exact wpAny_execs_nil q
 | ret v=>exact q
 | brk=>exact q
 | cont=>exact q
theorem Inv.quiet{pins:List (Addr×Obj)}{σ:St}{H:Hp}{s:Shared}(I:Inv X pins σ H s):interactive X.env=false:=by simp[interactive,I.ok.kind]
noncomputable def B9(te:TE):TS:=fun D σ H=>te σ H fun _ H1=>D.nx σ H1
theorem dO(he:PE X e te)(hs:swapsWith e none pos.line X.env=pure false:=by rfl):PS X (.Expr e pos) (B9 te):=by
 intro pins s σ H D I h;exact wpAny_Expr_any (thn (he pins s σ H _ I h) fun v s1 ⟨x,H1,I1,r1,q1⟩=>⟨σ,H1,I1,q1⟩) I.quiet hs
noncomputable def E8(te:TE):TS:=fun D σ H=>te σ H D.rt
theorem aJ(he:PE X e te):PS X (.Return (some e) pos) (E8 te):=by
 intro pins s σ H D I h;exact wpAny_Return_some (thn (he pins s σ H _ I h) fun v s1 ⟨x,H1,I1,r1,q1⟩=>⟨x,σ,H1,I1,r1,q1⟩)
noncomputable def E9(c:TT)(t u:TS):TS:=fun D σ H=>c σ H fun b H1=>if b=true then t D σ H1 else u D σ H1
theorem cz{c:Expr}{a b:List Stmt}{tc:TT}(hc:PT X c tc)(ha:PSs X a t)(hb:PSs X b u):PS X (.If c a b pos) (E9 tc t u):=by
 intro pins s σ H D I h;refine wpAny_If (thn (hc pins s σ H _ I h) fun d s1 zz9=>?_);obtain⟨H1,I1,q1⟩:=zz9;cases d with
 | true=>exact ha pins s1 σ H1 D I1 q1
 | false=>exact hb pins s1 σ H1 D I1 q1
end
noncomputable abbrev TG:=V->St->Hp->(St->Hp->Prop)->Prop
noncomputable abbrev TGs:=List V->St->Hp->(St->Hp->Prop)->Prop
noncomputable def PG(X:Cx)(target:Expr)(t:TG):Prop :=
 ∀(pins:List (Addr×Obj))(s:Shared)(σ:St)(H:Hp)(v:V)(u:Value)(Q:St->Hp->Prop),Inv X pins σ H s->RelV v u->t v σ H Q ->
  wpAny (model X.prog X.w) X.A (assign target X.env u) (fun _ s'=>∃σ' H',Inv X pins σ' H' s'/\Q σ' H') X.xe s
noncomputable def PGs(X:Cx)(ts:List Expr)(t:TGs):Prop :=
 ∀(pins:List (Addr×Obj))(s:Shared)(σ:St)(H:Hp)(vs:List V)(us:List Value)(Q:St->Hp->Prop),Inv X pins σ H s->Vals vs us->t vs σ H Q ->
  wpAny (model X.prog X.w) X.A (assignInOrder ((assignEach ts X.env).map (·.2)) us) (fun _ s'=>∃σ' H',Inv X pins σ' H' s'/\Q σ' H') X.xe s
noncomputable abbrev wo:=V->V->V->Hp->(Hp->Prop)->Prop
noncomputable def C5(X:Cx)(t:wo):Prop :=
 ∀(pins:List (Addr×Obj))(s:Shared)(σ:St)(H:Hp)(o i v:V)(ov iv u:Value)(Q:Hp->Prop),Inv X pins σ H s->RelV o ov->RelV i iv->RelV v u->t o i v H Q ->
  wpAny (model X.prog X.w) X.A (setItem ov iv u) (fun _ s'=>∃H',Inv X pins σ H' s'/\Q H') X.xe s
section
variable {X:Cx}{pos:Pos}
noncomputable def nr(i:Nat):TG:=fun v σ H Q=>Q (σ.set i (some v)) H
theorem uO{i:Nat}{x:Str}(hN:X.N.Nodup)(hi:X.N[i]?=some x)(hx:Loc X.env.scope x)(hf:X.fn x=true∨X.env.scope.names.lookup x=some .local:=by first|exact .inl rfl|exact .inr rfl|assumption):PG X (.Name x pos) (nr i):=by
 intro pins s σ H v u Q I r h;exact wpAny_assign_Name (xC I hN hi hx r (fun s' I'=>⟨_,H,I',h⟩) hf)
noncomputable def Fb:TGs:=fun vs σ H Q=>vs=[]/\Q σ H
noncomputable def Ca(t:TG)(u:TGs):TGs:=fun vs σ H Q=>∃v r,vs=v::r/\t v σ H fun σ' H'=>u r σ' H' Q
theorem qf:PGs X [] Fb:=by
 intro pins s σ H vs us Q I r h;obtain⟨e,h⟩:=h;subst e;cases r;exact assignInOrder_nil ⟨σ,H,I,h⟩
theorem gn{e:Expr}{es:List Expr}{t:TG}{u:TGs}(h1:PG X e t)(h2:PGs X es u)
  (hs:(assignEach (e::es) X.env).map (·.2)=assign e X.env::(assignEach es X.env).map (·.2):=by rfl):PGs X (e::es) (Ca t u):=by
 intro pins s σ H vs us Q I r h;obtain⟨v,vr,e1,h⟩:=h;subst e1;cases r with
 | cons r rr =>
  rw[hs];refine assignInOrder_cons (thn (h1 pins s σ H _ _ _ I r h) fun _ s1 zz9=>?_);obtain⟨σ1,H1,I1,q1⟩:=zz9;exact h2 pins s1 σ1 H1 _ _ Q I1 rr q1
noncomputable def C6(K:PySem.W.Frag)(n:Nat)(t:TGs):TG:=fun v σ H Q=>∃a xs,v=.ref a/\SqT K H a xs/\xs.length=n/\t xs σ H Q
theorem C7{es:List Expr}{k:Nat}{t:TGs}{n:Nat}(hc:X.calm=true)(h:PGs X es t)
  (hn:(assignEach es X.env).length=n:=by rfl)(hst:(assignEach es X.env).findIdx? (·.1)=none:=by rfl):PG X (.Tuple es k pos) (C6 X.K n t):=by
 intro pins s σ H v u Q I r hw;obtain⟨a,xs,e1,hq,hl,hw⟩:=hw;subst e1;cases r;obtain⟨its,rv,ht,hz⟩:=I.tuple hq;refine assign_Tuple_tuple (I.ok.hd hc) ht (by simp[hn,← hl,rv.length]) hst fun h' hx=>?_
 have I1:Inv X pins σ H { s with heap:=h' }:=I.kept (t':=s.toks) fun b o e=>hx b o (Zg (Heap.lt_size e)) e;exact h pins _ σ H xs _ Q I1 (by simpa using rv) hw
noncomputable def Fc(to ti:TE)(t:wo):TG:=fun v σ H Q=>to σ H fun o H1=>ti σ H1 fun i H2=>t o i v H2 fun H3=>Q σ H3
theorem gF{o i:Expr}{to ti:TE}{t:wo}(ho:PE X o to)(hi:PE X i ti)(hs:C5 X t)
  (ha:∀v,assign (.Subscript o i pos) X.env v=(do
   let ov ← holding [v] (eval o X.env)
   let iv ← holding [v,ov] (eval i X.env)
   standAt pos
   holding [v,ov,iv] (setItem ov iv v)
   release [v,ov,iv] []):=by intro _;rfl):PG X (.Subscript o i pos) (Fc to ti t):=by
 intro pins s σ H v u Q I r h;rw[ha];refine wpAny_bind (wpAny_holding (thn (ho pins s σ H _ I h) fun ov s1 zz9=>?_));obtain⟨x,H1,I1,r1,q1⟩:=zz9;refine wpAny_bind (wpAny_holding (thn (hi pins s1 σ H1 _ I1 q1) fun iv s2 zz9=>?_));obtain⟨y,H2,I2,r2,q2⟩:=zz9;refine wpAny_bind (wpAny_standAt (wpAny_bind (wpAny_holding (thn (hs pins s2 σ H2 x y v ov iv u _ I2 r1 r2 r q2) fun _ s3 zz9=>?_))));obtain⟨H3,I3,q3⟩:=zz9;exact wpAny_release ⟨σ,H3,I3,q3⟩
noncomputable def wp(te:TE)(g:TG):TS:=fun D σ H=>te σ H fun x H1=>g x σ H1 D.nx
theorem fV{tg e:Expr}{te:TE}{g:TG}(he:PE X e te)(hg:PG X tg g)(hs:swapsWithSole [tg] e pos.line X.env=pure false:=by rfl)(hw:swappedStores [tg] e X.env=pure none:=by rfl)
  (h1:(assignEach [tg] X.env).map (·.2)=[assign tg X.env]:=by rfl):PS X (.Assign [tg] e pos) (wp te g):=by
 intro pins s σ H D I h;refine wpAny_Assign_stores (thn (he pins s σ H _ I h) fun v s1 zz9=>?_) hs hw;obtain⟨x,H1,I1,r1,q1⟩:=zz9;rw[h1];exact thn (hg pins s1 σ H1 x v _ I1 r1 q1) fun _ s2 q=>q
end
section
variable {X:Cx}{pos:Pos}
noncomputable def xD(c:TT)(tb:TS):TS:=fun D σ H=>∃W:Nat->St->Hp->Prop,(∃m,W m σ H)/\∀m σ H,W m σ H ->
 c σ H fun b H1=>if b=true then ∃N:St->Hp->Prop,(∀σ' H',N σ' H'->∃m',m'<m/\W m' σ' H')/\tb { D with nx:=N,ct:=N,bk:=D.nx } σ H1 else D.nx σ H1
theorem ky{c:Expr}{body:List Stmt}{tc:TT}{tb:TS}(hp:PassesOwn (model X.prog X.w) X.A X.env X.xe)(hc:PT X c tc)(hb:PSs X body tb):PS X (.While c body [] pos) (xD tc tb):=by
 intro pins s σ H D I h;obtain⟨W,⟨m0,w0⟩,turn⟩:=h;refine wpAny_While (codeAny_whileLoop (fun n s'=>∃σ' H',Inv X pins σ' H' s'/\W n σ' H') ?_ m0 ⟨σ,H,I,w0⟩);rintro n s1 ⟨σ1,H1,I1,w1⟩;refine wpAny_passesOwn hp (thn (hc pins s1 σ1 H1 _ I1 (turn n σ1 H1 w1)) fun b s2 zz9=>?_);obtain⟨H2,I2,q2⟩:=zz9;cases b with
 | true =>
  obtain⟨N,hN,q2⟩:=q2;rw[if_pos rfl];refine wpAny_passesOwn hp (thn (hb pins s2 σ1 H2 _ I2 q2) fun f s3 q3=>?_);cases f with
  | next =>
   obtain⟨σ3,H3,I3,n3⟩:=q3;obtain⟨m',hm,w3⟩:=hN σ3 H3 n3;exact⟨m',hm,σ3,H3,I3,w3⟩
  | cont =>
   obtain⟨σ3,H3,I3,n3⟩:=q3;obtain⟨m',hm,w3⟩:=hN σ3 H3 n3;exact⟨m',hm,σ3,H3,I3,w3⟩
  | brk=>exact q3
  | ret v=>exact q3
 | false =>
  rw[if_neg Yd];exact wpAny_execs_nil ⟨σ1,H2,I2,q2⟩
end
structure It where
 go:Nat->Hp->Prop
 yld:Nat->Hp->V->Hp->Prop
 stop:Nat->Hp->Prop
noncomputable def iz(X:Cx)(pins:List (Addr×Obj))(H:Hp)(b:Addr):Prop :=
 H b=none/\b≠X.env.locals/\b∉X.fs/\(b∈X.ex∨X.s₀.heap.objs.size<=b)/\(∀x c,X.env.cells.lookup x=some c->c≠b)/\∀p∈X.pn++pins,p.1≠b
theorem Inv.fpOk{X:Cx}{pins:List (Addr×Obj)}{σ:St}{H H':Hp}{s:Shared}{b:Addr}(I:Inv X pins σ H s)(hb:s.heap.objs.size<=b)(hn:H' b=none):iz X pins H' b:=by
 refine⟨hn,Yk (Zd I.lt hb),I.nofs hb,.inr (Xe I.sz hb),fun x c e z=>?_,fun p hp z=>?_⟩
 ·obtain⟨v,q⟩:=I.cell x c e;exact absurd (Zd q.lt (by rw[z];exact hb)) (Wi _)
 ·exact absurd (Zd (Heap.lt_size (I.pin p hp).1) (by rw[z];exact hb)) (Wi _)
structure Turn(P:Program)(w:World)(K:PySem.W.Frag)(tg:Expr)(J:It)(fp:List Addr)(it:Addr)(tn:Nat->Heap->Prop):Prop where
 mem:it∈fp
 obj:∀i h,tn i h->∀b∈fp,∃o,h.get? b=some o/\∀v,o.data≠.cell v
 keep:∀i h h',tn i h->(∀b∈fp,∀o,h.get? b=some o->h'.get? b=some o)->tn i h'
 item:∀(X:Cx),X.prog=P->X.w=w->X.K=K->X.calm=true->∀(i:Nat)(pins:List (Addr×Obj))(s:Shared)(σ:St)(H:Hp)(E:Value->Shared->Prop),Inv X pins σ H s->(∀b∈fp,iz X pins H b)->tn i s.heap->J.go i H ->
  wpAny (model P w) X.A (pyNext (.ref it)) (fun r s1=>∃u,r=some u /\
   wpAny (model P w) X.A (letOwnedTupleGo tg (.ref it) u) (fun _ s2=>∃x H',Inv X pins σ H' s2/\RelV x u/\J.yld i H x H'/\tn (i+1) s2.heap/\∀b∈fp,H' b=none) E s1) E s
 done:∀(X:Cx),X.prog=P->X.w=w->X.K=K->X.calm=true->∀(i:Nat)(pins:List (Addr×Obj))(s:Shared)(σ:St)(H:Hp)(E:Value->Shared->Prop),Inv X pins σ H s->(∀b∈fp,iz X pins H b)->tn i s.heap->J.stop i H ->
  wpAny (model P w) X.A (pyNext (.ref it)) (fun r s1=>r=none/\Inv X pins σ H s1) E s
 self:∀(A:Around)(i:Nat)(s:Shared)(Q:Value->Shared->Prop)(E:Value->Shared->Prop),tn i s.heap->Q (.ref it) s->wpAny (model P w) A (pyIter (.ref it)) Q E s
noncomputable abbrev TI:=St->Hp->(It->Hp->Prop)->Prop
inductive PIE(X:Cx)(pins:List (Addr×Obj))(σ:St)(tg:Expr)(R:It->Hp->Prop)(itv:Value)(s2:Shared):Prop
 | mk (it:Addr) (fp:List Addr) (tn:Nat->Heap->Prop) (J:It) (H':Hp) (e:itv=.ref it) (I:Inv X pins σ H' s2) (T:Turn X.prog X.w X.K tg J fp it tn) (t0:tn 0 s2.heap) (fo:∀b∈fp,iz X pins H' b) (r:R J H')
noncomputable def PI(X:Cx)(tg iter:Expr)(wi:TI):Prop :=
 ∀(pins:List (Addr×Obj))(s:Shared)(σ:St)(H:Hp)(R:It->Hp->Prop),Inv X pins σ H s->wi σ H R ->
  wpAny (model X.prog X.w) X.A (eval iter X.env) (fun v s1=>wpAny (model X.prog X.w) X.A (pyIter v) (PIE X pins σ tg R) X.xe s1) X.xe s
theorem o9{M : Model}{A : Around}{E : Value → Shared → Prop}{s : Shared}{tg : Expr}{it : Addr}{u : Value}{o : Obj}{n : String}{vs : Array Value}{Q : Unit → Shared → Prop}(ho : s.heap.get? it = some o)(hc : o.cls = .type n)(hd : o.data = .fields vs)
    (hn : ["enumerate", "zip", "dict_itemiterator", "dict_reverseitemiterator", "odict_iterator", "itertools.zip_longest", "itertools.pairwise"].contains n = false)(hQ : Q () s) : wpAny M A (letOwnedTupleGo tg (.ref it) u) Q E s := by
  unfold letOwnedTupleGo;cases tg <;> first
    | exact wpAny_pure hQ
    | (cases u <;> first
        | exact wpAny_pure hQ
        | (refine wpAny_bind (wpAny_load ho ?_)
           rw [hc, hd];show wpAny M A (if (["enumerate", "zip", "dict_itemiterator", "dict_reverseitemiterator", "odict_iterator", "itertools.zip_longest", "itertools.pairwise"].contains n && vs[0]? == some (rawInt _)) = true then _ else _) Q E s;rw [if_neg (by intro h; rw [hn, Bool.false_and] at h; cases h)]
           exact wpAny_pure hQ))
noncomputable def Itl(K:PySem.W.Frag)(a:Addr):It :=
 ⟨fun i H=>∃xs x,SqL K H a xs/\xs[i]?=some x,fun i H x H'=>H'=H/\∀xs,SqL K H a xs->xs[i]?=some x,fun i H=>∃xs,SqL K H a xs/\xs.length<=i⟩
noncomputable def Itt(K:PySem.W.Frag)(a:Addr):It :=
 ⟨fun i H=>∃xs x,SqT K H a xs/\xs[i]?=some x,fun i H x H'=>H'=H/\∀xs,SqT K H a xs->xs[i]?=some x,fun i H=>∃xs,SqT K H a xs/\xs.length<=i⟩
noncomputable def Itr(lo:Int)(n:Nat):It:=⟨fun i _=>i<n,fun i H x H'=>H'=H/\x=.int (lo+i),fun i _=>n<=i⟩
theorem wq{P:Program}{w:World}{K:PySem.W.Frag}{tg:Expr}(a it:Addr):Turn P w K tg (Itl K a) [it] it (fun i h=>h.IsListIter it a i) where
 mem:=by simp
 obj:=fun i h st b hb=>by
  have e:b=it:=by simpa using hb
  subst e;obtain⟨o,e,c,d⟩:=st;exact⟨o,e,fun v z=>by rw[d]at z;cases z⟩
 keep:=fun i h h' st k=>st.at fun o e=>k it (by simp) o e
 item:=by
  intro X hP hw hK hc i pins s σ H E I hf st hg;subst hP hw hK;obtain⟨xs,x,hq,hx⟩:=hg;obtain⟨its,rv,p,hz⟩:=I.list hq;obtain⟨u,hu,ru⟩:=rv.get hx;obtain⟨f0,f1,f2,f3,f4,f5⟩:=hf it (by simp)
  refine wpAny_pyNext_list_item st p.isList (x:=u) (by simpa using hu) fun h' st' sb=>?_
  have I1:Inv X pins σ H { s with heap:=h' }:=I.turned (t':=s.toks) (fun b o hb e=>(sb.2 b hb).trans e) f0 f1 f3 f4 f5;obtain⟨o,e,c,d⟩:=id st';exact⟨u,rfl,o9 (s:={ s with heap:=h' }) e c d (by decide) ⟨x,H,I1,ru,⟨rfl,fun ys hy=>by rw[I.list_inj hy hq];exact hx⟩,st',fun b hb=>(hf b hb).1⟩⟩
 done:=by
  intro X hP hw hK hc i pins s σ H E I hf st hg;subst hP hw hK;obtain⟨xs,hq,hx⟩:=hg;obtain⟨its,rv,p,hz⟩:=I.list hq;obtain⟨f0,f1,f2,f3,f4,f5⟩:=hf it (by simp)
  have hl:=rv.length;exact wpAny_pyNext_list_end (I.ok.hd hc) st p.isList (by simp;lia) fun h' eb=>⟨rfl,I.turned (t':=s.toks) (fun b o hb e=>eb b o hb e) f0 f1 f3 f4 f5⟩
 self:=fun _ _ _ _ _ st h=>wpAny_pyIter_listiter st h
theorem tL{P:Program}{w:World}{K:PySem.W.Frag}{tg:Expr}(a it:Addr):Turn P w K tg (Itt K a) [it] it (fun i h=>h.IsTupleIter it a i) where
 mem:=by simp
 obj:=fun i h st b hb=>by
  have e:b=it:=by simpa using hb
  subst e;obtain⟨o,e,c,d⟩:=st;exact⟨o,e,fun v z=>by rw[d]at z;cases z⟩
 keep:=fun i h h' st k=>st.at fun o e=>k it (by simp) o e
 item:=by
  intro X hP hw hK hc i pins s σ H E I hf st hg;subst hP hw hK;obtain⟨xs,x,hq,hx⟩:=hg;obtain⟨its,rv,p,hz⟩:=I.tuple hq;obtain⟨u,hu,ru⟩:=rv.get hx;obtain⟨f0,f1,f2,f3,f4,f5⟩:=hf it (by simp)
  refine wpAny_pyNext_tuple_item st (show s.heap.IsTuple a its.toArray from p) (x:=u) (by simpa using hu) fun h' st' sb=>?_
  have I1:Inv X pins σ H { s with heap:=h' }:=I.turned (t':=s.toks) (fun b o hb e=>(sb.2 b hb).trans e) f0 f1 f3 f4 f5;obtain⟨o,e,c,d⟩:=id st';exact⟨u,rfl,o9 (s:={ s with heap:=h' }) e c d (by decide) ⟨x,H,I1,ru,⟨rfl,fun ys hy=>by rw[I.tuple_inj hy hq];exact hx⟩,st',fun b hb=>(hf b hb).1⟩⟩
 done:=by
  intro X hP hw hK hc i pins s σ H E I hf st hg;subst hP hw hK;obtain⟨xs,hq,hx⟩:=hg;obtain⟨its,rv,p,hz⟩:=I.tuple hq;obtain⟨f0,f1,f2,f3,f4,f5⟩:=hf it (by simp)
  have hl:=rv.length;exact wpAny_pyNext_tuple_end (I.ok.hd hc) st (show s.heap.IsTuple a its.toArray from p) (by simp;lia) fun h' eb=>⟨rfl,I.turned (t':=s.toks) (fun b o hb e=>eb b o hb e) f0 f1 f3 f4 f5⟩
 self:=fun _ _ _ _ _ st h=>wpAny_pyIter_tupleiter st h
theorem tM{P:Program}{w:World}{K:PySem.W.Frag}{tg:Expr}(it:Addr)(lo:Int)(n:Nat):Turn P w K tg (Itr lo n) [it] it (fun i h=>IsRangeIter h it (lo+(i:Nat)*1) ((n:Int)-(i:Nat)) 1) where
 mem:=by simp
 obj:=fun i h st b hb=>by
  have e:b=it:=by simpa using hb
  subst e
  exact⟨_,st,fun v z=>by
   have z':Data.fields _=Data.cell v:=z
   cases z'⟩
 keep:=fun i h h' st k=>k it (by simp) _ st
 item:=by
  intro X hP hw hK hc i pins s σ H E I hf st hg;subst hP hw hK;obtain⟨f0,f1,f2,f3,f4,f5⟩:=hf it (by simp)
  have W:=Walks.range (prog:=X.prog) (w:=X.w) (I.ok.hd hc) it lo 1 n;refine W.item i s _ _ hg st fun v h' tk hv st' kk=>?_;obtain⟨t,rfl⟩:=hv;have I1:Inv X pins σ H { s with heap:=h',toks:=tk }:=I.turned (fun b o hb e=>kk b o (by simpa using hb) e) f0 f1 f3 f4 f5
  refine⟨_,rfl,o9 (s:={ s with heap:=h',toks:=tk }) (n:="range_iterator") st' rfl rfl (by decide) ⟨.int (lo+i),H,I1,⟨t,?_⟩,⟨rfl,rfl⟩,st',fun b hb=>(hf b hb).1⟩⟩
  rw[Int.mul_one]
 done:=by
  intro X hP hw hK hc i pins s σ H E I hf st hg;subst hP hw hK;obtain⟨f0,f1,f2,f3,f4,f5⟩:=hf it (by simp)
  exact wpAny_pyNext_range_end (I.ok.hd hc) st (by have:n<=i:=hg;lia) fun h' eb=>⟨rfl,I.turned (t':=s.toks) (fun b o hb e=>eb b o hb e) f0 f1 f3 f4 f5⟩
 self:=fun _ _ _ _ _ st h=>wpAny_pyIter_rangeiter st h
end L2
namespace L2
open PySem PySem.Spec PyProof.Rows
section
variable {X:Cx}{tg:Expr}
noncomputable def uP(K:PySem.W.Frag)(tl:TE):TI:=fun σ H R=>tl σ H fun x H1=>∃a,x=.ref a/\(∃xs,SqL K H1 a xs)/\R (Itl K a) H1
noncomputable def C8(K:PySem.W.Frag)(tl:TE):TI:=fun σ H R=>tl σ H fun x H1=>∃a,x=.ref a/\(∃xs,SqT K H1 a xs)/\R (Itt K a) H1
theorem AA{l:Expr}{tl:TE}(hl:PE X l tl):PI X tg l (uP X.K tl):=by
 intro pins s σ H R I h;refine thn (hl pins s σ H _ I h) fun v s1 zz9=>?_;obtain⟨x,H1,I1,r1,q1⟩:=zz9;obtain⟨a,e,⟨xs,hq⟩,q⟩:=q1;subst e;cases r1;obtain⟨its,rv,p,hz⟩:=I1.list hq;refine wpAny_pyIter_list p.isList ?_;refine⟨s1.heap.objs.size,[s1.heap.objs.size],_,_,H1,rfl,I1.kept (t':=s1.toks) fun b o e=>Heap.get?_push_of_some _ e,wq a _,⟨_,Heap.get?_push_size _ rfl,rfl,rfl⟩,fun b hb=>?_,q⟩;have e:b=s1.heap.objs.size:=by simpa using hb
 subst e;exact I1.fpOk (Va _) (I1.hok.fresh (Va _))
theorem C9{l:Expr}{tl:TE}(hl:PE X l tl):PI X tg l (C8 X.K tl):=by
 intro pins s σ H R I h;refine thn (hl pins s σ H _ I h) fun v s1 zz9=>?_;obtain⟨x,H1,I1,r1,q1⟩:=zz9;obtain⟨a,e,⟨xs,hq⟩,q⟩:=q1;subst e;cases r1;obtain⟨its,rv,p,hz⟩:=I1.tuple hq;refine wpAny_pyIter_tuple (show s1.heap.IsTuple a its.toArray from p) ?_;refine⟨s1.heap.objs.size,[s1.heap.objs.size],_,_,H1,rfl,I1.kept (t':=s1.toks) fun b o e=>Heap.get?_push_of_some _ e,tL a _,⟨_,Heap.get?_push_size _ rfl,rfl,rfl⟩,fun b hb=>?_,q⟩;have e:b=s1.heap.objs.size:=by simpa using hb
 subst e;exact I1.fpOk (Va _) (I1.hok.fresh (Va _))
theorem xE{pins:List (Addr×Obj)}{σ:St}{H:Hp}{s:Shared}{R:It->Hp->Prop}{E:Value->Shared->Prop}{lo hi:Int}{t u v:Tok}{tk:Nat}(I:Inv X pins σ H s)(h1:-(2 ^ 62)<=lo)(h2:lo<2 ^ 62)(h3:-(2 ^ 62)<=hi)(h4:hi<2 ^ 62)
  (q:R (Itr lo (hi-lo).toNat) H):wpAny (model X.prog X.w) X.A (pyIter (.ref s.heap.objs.size)) (PIE X pins σ tg R) E { s with heap:=s.heap.push { cls:=.type "range",data:=.fields #[.int lo t,.int hi u,.int 1 v] },toks:=tk }:=by
 refine wpAny_pyIter_range (IsRange.new ..) (small_one h1 h2 h3 h4) ?_;have I1:Inv X pins σ H { s with heap:=s.heap.push { cls:=.type "range",data:=.fields #[.int lo t,.int hi u,.int 1 v] },toks:=tk }:=I.kept fun b o e=>Heap.get?_push_of_some _ e
 refine⟨(s.heap.push { cls:=.type "range",data:=.fields #[.int lo t,.int hi u,.int 1 v] }).objs.size,[(s.heap.push { cls:=.type "range",data:=.fields #[.int lo t,.int hi u,.int 1 v] }).objs.size],_,_,H,rfl,
  I1.kept (t':=tk) fun b o e=>Heap.get?_push_of_some _ e,tM _ lo (hi-lo).toNat,?_,fun b hb=>?_,q⟩
 ·have e1:lo+((0:Nat):Int)*1=lo:=by simp
  have e2:(((hi-lo).toNat:Nat):Int)-((0:Nat):Int)=Builtin.Range.rangeSize lo hi 1:=by rw[rangeSize_one];split<;>lia
  show IsRangeIter _ _ (lo+((0:Nat):Int)*1) ((((hi-lo).toNat:Nat):Int)-((0:Nat):Int)) 1;rw[e1,e2];exact Heap.get?_push_size _ rfl
 ·have e:b=(s.heap.push { cls:=.type "range",data:=.fields #[.int lo t,.int hi u,.int 1 v] }).objs.size:=by simpa using hb
  subst e;exact I1.fpOk (Va _) (I1.hok.fresh (Va _))
noncomputable def Cb(ta:TA):TI:=fun σ H R=>ta σ H fun vs H1=>∃j:Int,vs=[.int j]/\-(2 ^ 62)<=j/\j<2 ^ 62/\R (Itr 0 j.toNat) H1
theorem jc{a:Expr}{ta:TA}{p pos:Pos}(hg:Gl X "range")(hm:X.mg "range"=none)(ha:PA X [a] ta)(hs:starEach [a] X.env=[(false,eval a X.env)]:=by rfl):PI X tg (.Call (.Name "range" p) [a] [] pos) (Cb ta):=by
 intro pins s σ H R I h;refine Call_ (jM I hg hm boot_range (PyProof.Rows.callWith_type1 (thn (ha pos pins s σ H _ I h) fun us s1 zz9=>?_) hs rfl));obtain⟨vs,H1,I1,r1,q1⟩:=zz9;obtain⟨j,e,q1,q2,q⟩:=q1;subst e;cases r1 with
 | cons r rr =>
  cases rr;obtain⟨t,rfl⟩:=r;exact call_range_1 (xE I1 (by lia) (by lia) q1 q2 (by simpa using q))
noncomputable def Fe(wi:TI)(g:TG)(tb:TS):TS:=fun D σ H=>wi σ H fun J H1=>∃W:Nat->Nat->St->Hp->Prop,(∃m,W 0 m σ H1)/\∀i m σ H,W i m σ H ->
 (J.stop i H/\D.nx σ H)∨(J.go i H/\∃N:St->Hp->Prop,(∀σ' H',N σ' H'->∃m',m'<m/\W (i+1) m' σ' H')/\∀x H',J.yld i H x H'->g x σ H' fun σ2 H2=>tb { D with nx:=N,ct:=N,bk:=D.nx } σ2 H2)
noncomputable def nt(fp:List Addr)(h:Heap):List (Addr×Obj):=fp.filterMap fun b=>(h.get? b).map fun o=>(b,o)
theorem gG{fp:List Addr}{h:Heap}{b:Addr}{o:Obj}(hb:b∈fp)(e:h.get? b=some o):(b,o)∈nt fp h:=List.mem_filterMap.mpr ⟨b,hb,by rw[e];rfl⟩
theorem wr{fp:List Addr}{h:Heap}{p:Addr×Obj}(hp:p∈nt fp h):p.1∈fp/\h.get? p.1=some p.2:=by
 obtain⟨b,hb,e⟩:=List.mem_filterMap.mp hp;cases q:h.get? b with
 | none=>rw[q]at e;cases e
 | some o =>
  rw[q]at e;have e':(b,o)=p:=Option.some.inj e;subst e';exact⟨hb,q⟩
theorem Inv.pinned{pins:List (Addr×Obj)}{σ:St}{H:Hp}{s:Shared}{fp:List Addr}(I:Inv X pins σ H s)(hf:∀b∈fp,iz X pins H b)(ho:∀b∈fp,∃o,s.heap.get? b=some o/\∀v,o.data≠.cell v):Inv X (pins++nt fp s.heap) σ H s :=
 I.pins_of fun p hp=>(Xc.mp hp).elim (fun z=>I.pin p (Wd _ z)) fun z=>by
  obtain⟨hb,e⟩:=wr z;obtain⟨f0,f1,f2,_⟩:=hf p.1 hb;obtain⟨o,e',d⟩:=ho p.1 hb;rw[e]at e';cases e';exact⟨e,f0,f1,f2,d⟩
theorem Inv.unpinned{pins pl:List (Addr×Obj)}{σ:St}{H:Hp}{s:Shared}(I:Inv X (pins++pl) σ H s):Inv X pins σ H s:=I.pins_of fun p hp=>I.pin p (Wd _ (Vi _ hp))
theorem gH{iter:Expr}{body:List Stmt}{wi:TI}{g:TG}{tb:TS}{pos:Pos}(hp:PassesOwn (model X.prog X.w) X.A X.env X.xe)(hc:X.calm=true)(hi:PI X tg iter wi)(hg:PG X tg g)(hb:PSs X body tb)
  (hs:∀x,foldedSetIterable iter X.env x=pure x:=by intro _;rfl):PS X (.For tg iter body [] pos) (Fe wi g tb):=by
 intro pins s σ H D I h;refine wpAny_For (thn (hi pins s σ H _ I h) fun v s1 h1=>thn h1 fun itv s2 h2=>?_) hs;obtain⟨it,fp,tn,J,H2,e,I2,T,st2,f2,W,⟨m0,w0⟩,turn⟩:=h2;subst e;have stat:∀{H':Hp},(∀b∈fp,H' b=none)->∀b∈fp,iz X pins H' b:=fun hn b hb=>⟨hn b hb,(f2 b hb).2⟩;refine codeAny_forLoop_any (fun n s'=>∃i σ' H',Inv X pins σ' H' s'/\tn i s'.heap/\(∀b∈fp,H' b=none)/\W i n σ' H') ?_ m0 ⟨0,σ,H2,I2,st2,fun b hb=>(f2 b hb).1,w0⟩;rintro n s3 ⟨i,σ3,H3,I3,st3,fr3,w3⟩;rcases turn i n σ3 H3 w3 with⟨stop,qn⟩|⟨go,N,hN,step⟩
 ·refine wpAny_passesOwn hp (thn (T.done X rfl rfl rfl hc i pins s3 σ3 H3 X.xe I3 (stat fr3) st3 stop) fun r s4 zz9=>?_);obtain⟨hr,I4⟩:=zz9;subst hr;exact wpAny_execs_nil ⟨σ3,H3,I4,qn⟩
 ·refine wpAny_passesOwn hp (thn (T.item X rfl rfl rfl hc i pins s3 σ3 H3 X.xe I3 (stat fr3) st3 go) fun r s4 zz9=>?_);obtain⟨u,hr,h4⟩:=zz9;subst hr;refine wpAny_passesOwn hp (thn h4 fun _ s5 zz9=>?_);obtain⟨x,H5,I5,r5,y5,st5,fr5⟩:=zz9;have I5':=I5.pinned (stat fr5) (T.obj _ _ st5);refine wpAny_passesOwn hp (thn (hg _ s5 σ3 H5 x u _ I5' r5 (step x H5 y5)) fun _ s6 zz9=>?_);obtain⟨σ6,H6,I6,q6⟩:=zz9;refine wpAny_passesOwn hp (thn (hb _ s6 σ6 H6 _ I6 q6) fun f s7 q7=>?_);have again:∀{σ7:St}{H7:Hp},Inv X (pins++nt fp s5.heap) σ7 H7 s7->N σ7 H7->∃m,m<n/\∃i σ' H',Inv X pins σ' H' s7/\tn i s7.heap/\(∀b∈fp,H' b=none)/\W i m σ' H':=fun {σ7 H7} I7 n7=>by
   obtain⟨m',hm,w7⟩:=hN σ7 H7 n7;refine⟨m',hm,i+1,σ7,H7,I7.unpinned,T.keep _ _ _ st5 fun b hb o e=>(I7.pin (b,o) (Wd _ (Wd _ (gG hb e)))).1,fun b hb=>?_,w7⟩;obtain⟨o,e,d⟩:=T.obj _ _ st5 b hb;exact(I7.pin (b,o) (Wd _ (Wd _ (gG hb e)))).2.1
  cases f with
  | next=>obtain⟨σ7,H7,I7,n7⟩:=q7;exact again I7 n7
  | cont=>obtain⟨σ7,H7,I7,n7⟩:=q7;exact again I7 n7
  | brk=>obtain⟨σ7,H7,I7,q7⟩:=q7;exact⟨σ7,H7,I7.unpinned,q7⟩
  | ret v=>obtain⟨x7,σ7,H7,I7,r7,q7⟩:=q7;exact⟨x7,σ7,H7,I7.unpinned,r7,q7⟩
end
end L2
namespace L2
open PySem PySem.Spec PyProof.Rows
noncomputable abbrev R2:=V->V->Hp->VK->Prop
noncomputable def OpR(X:Cx)(f:Value->Value->Sem Value)(r:R2):Prop :=
 ∀(pins:List (Addr×Obj))(s:Shared)(σ:St)(H:Hp)(x y:V)(v u:Value)(Q:VK),Inv X pins σ H s->RelV x v->RelV y u->r x y H Q ->
  wpAny (model X.prog X.w) X.A (f v u) (EP X pins σ Q) X.xe s
noncomputable def UnR(X:Cx)(f:Value->Sem Value)(r:V->Hp->VK->Prop):Prop :=
 ∀(pins:List (Addr×Obj))(s:Shared)(σ:St)(H:Hp)(x:V)(v:Value)(Q:VK),Inv X pins σ H s->RelV x v->r x H Q ->
  wpAny (model X.prog X.w) X.A (f v) (EP X pins σ Q) X.xe s
noncomputable def CallR(X:Cx)(f:Value)(r:List V->Hp->VK->Prop):Prop :=
 ∀(pins:List (Addr×Obj))(s:Shared)(σ:St)(H:Hp)(xs:List V)(us:List Value)(Q:VK),Inv X pins σ H s->Vals xs us->r xs H Q ->
  wpAny (model X.prog X.w) X.A (call f us) (EP X pins σ Q) X.xe s
noncomputable def tOp(r:R2)(ta tb:TE):TE:=fun σ H Q=>ta σ H fun x H1=>tb σ H1 fun y H2=>r x y H2 Q
noncomputable def tUn(r:V->Hp->VK->Prop)(ta:TE):TE:=fun σ H Q=>ta σ H fun x H1=>r x H1 Q
noncomputable def rI(C:Int->Int->Prop)(g:Int->Int->V):R2:=fun x y H Q=>∃i j,x=.int i/\y=.int j/\C i j/\Q (g i j) H
noncomputable def rI0(g:Int->Int->V):R2:=fun x y H Q=>∃i j,x=.int i/\y=.int j/\Q (g i j) H
noncomputable def rU(g:Int->V):V->Hp->VK->Prop:=fun x H Q=>∃i,x=.int i/\Q (g i) H
section
variable {X:Cx}{a b c:Expr}{ta tb tc:TE}{pos:Pos}
theorem Db(ha:PE X a ta)(hb:PE X b tb){pins:List (Addr×Obj)}{s:Shared}{σ:St}{H:Hp}{R:V->V->Hp->Prop}(I:Inv X pins σ H s)
  (h:ta σ H fun x H1=>tb σ H1 fun y H2=>R x y H2){Q:Value->Shared->Prop}{f:Value->Value->Sem Value}
  (hf:∀v u s2 x y H2,Inv X pins σ H2 s2->RelV x v->RelV y u->R x y H2->wpAny (model X.prog X.w) X.A (f v u) Q X.xe s2) :
  wpAny (model X.prog X.w) X.A (eval a X.env) (fun v s₁=>wpAny (model X.prog X.w) X.A (eval b X.env) (fun u s₂=>wpAny (model X.prog X.w) X.A (f v u) Q X.xe s₂) X.xe s₁) X.xe s:=by
 refine thn (ha pins s σ H _ I h) fun v s1 zz9=>?_;obtain⟨x,H1,I1,r1,q1⟩:=zz9;refine thn (hb pins s1 σ H1 _ I1 q1) fun u s2 zz9=>?_;obtain⟨y,H2,I2,r2,q2⟩:=zz9;exact hf v u s2 x y H2 I2 r1 r2 q2
theorem bG{op:Operator}{r:R2}(ho:OpR X (binaryOp op) r)(ha:PE X a ta)(hb:PE X b tb):PE X (.BinOp a op b pos) (tOp r ta tb):=by
 intro pins s σ H Q I h;exact wpAny_BinOp (Db ha hb I h fun v u s2 x y H2 I2 rx ry q=>ho pins s2 σ H2 x y v u Q I2 rx ry q)
theorem pe{op:UnaryOp}{r:V->Hp->VK->Prop}(ho:UnR X (unaryOp op) r)(ha:PE X a ta):PE X (.UnaryOp op a pos) (tUn r ta):=by
 intro pins s σ H Q I h;exact UnaryOp_ (thn (ha pins s σ H _ I h) fun v s1 ⟨x,H1,I1,r1,q1⟩=>ho pins s1 σ H1 x v Q I1 r1 q1)
theorem opI{f:Value->Value->Sem Value}{C:Int->Int->Prop}{g:Int->Int->Int}
  (rule:∀(i j:Int)(t u:Tok)(s:Shared)(Q:Value->Shared->Prop)(E:Value->Shared->Prop),C i j->Q (.int (g i j) s.toks) { s with toks:=s.toks+1 }->wpAny (model X.prog X.w) X.A (f (.int i t) (.int j u)) Q E s) :
  OpR X f (rI C fun i j=>.int (g i j)):=by
 intro pins s σ H x y v u Q I rx ry h;obtain⟨i,j,rfl,rfl,hc,q⟩:=h;obtain⟨t,rfl⟩:=rx;obtain⟨t',rfl⟩:=ry;exact rule i j t t' s _ _ hc ⟨.int (g i j),H,I.tok _,⟨_,rfl⟩,q⟩
theorem Ff{f:Value->Value->Sem Value}{g:Int->Int->Int}
  (rule:∀(i j:Int)(t u:Tok)(s:Shared)(Q:Value->Shared->Prop)(E:Value->Shared->Prop),Q (.int (g i j) s.toks) { s with toks:=s.toks+1 }->wpAny (model X.prog X.w) X.A (f (.int i t) (.int j u)) Q E s) :
  OpR X f (rI0 fun i j=>.int (g i j)):=by
 intro pins s σ H x y v u Q I rx ry h;obtain⟨i,j,rfl,rfl,q⟩:=h;obtain⟨t,rfl⟩:=rx;obtain⟨t',rfl⟩:=ry;exact rule i j t t' s _ _ ⟨.int (g i j),H,I.tok _,⟨_,rfl⟩,q⟩
theorem Dc{f:Value->Value->Sem Value}{g:Int->Int->Bool}
  (rule:∀(i j:Int)(t u:Tok)(s:Shared)(Q:Value->Shared->Prop)(E:Value->Shared->Prop),Q (.bool (g i j)) s->wpAny (model X.prog X.w) X.A (f (.int i t) (.int j u)) Q E s) :
  OpR X f (rI0 fun i j=>.bl (g i j)):=by
 intro pins s σ H x y v u Q I rx ry h;obtain⟨i,j,rfl,rfl,q⟩:=h;obtain⟨t,rfl⟩:=rx;obtain⟨t',rfl⟩:=ry;exact rule i j t t' s _ _ ⟨.bl (g i j),H,I,rfl,q⟩
noncomputable def tO(i j:Int):Prop:=0<j/\j<1073741824
noncomputable def xF(i j:Int):Prop:=0<=j/\j<=1000000/\i.natAbs<2 ^ 64
noncomputable def CMul(i j:Int):Prop:=(-(2 ^ 64)<i/\i<2 ^ 64)∨(-(2 ^ 64)<j/\j<2 ^ 64)
theorem CMul.ok{i j:Int}(h:CMul i j):IntMulOk i j:=by
 rcases h with⟨h1,h2⟩|⟨h1,h2⟩
 ·exact .of_left (intBits_le_64 h1 h2)
 ·exact .of_right (intBits_le_64 h1 h2)
theorem op_add:OpR X (binaryOp .Add) (rI0 fun i j=>.int (i+j)):=Ff fun _ _ _ _ _ _ _ q=>add_int q
theorem tP:OpR X (binaryOp .Sub) (rI0 fun i j=>.int (i-j)):=Ff fun _ _ _ _ _ _ _ q=>sub_int q
theorem op_mul:OpR X (binaryOp .Mult) (rI CMul fun i j=>.int (i*j)):=opI fun _ _ _ _ _ _ _ hc q=>mul_int q hc.ok
theorem mP:OpR X (binaryOp .FloorDiv) (rI tO fun i j=>.int (i / j)):=opI fun i j _ _ _ _ _ hc q=>by
 have h1:(0:Int)<j:=hc.1;have h2:j<1073741824:=hc.2;exact floordiv_int (by lia) (by rw[Int.fdiv_eq_ediv_of_nonneg i (by lia)];exact q) (.inl (PyProof.noPylong_small (by lia)))
theorem iA:OpR X (binaryOp .Mod) (rI (fun _ j=>0<j) fun i j=>.int (i % j)):=opI fun i j _ _ _ _ _ hc q=>by
 have h1:(0:Int)<j:=hc;exact mod_int' (by lia) (by rw[Int.fmod_eq_emod_of_nonneg i (by lia)];exact q)
theorem Dd:OpR X (binaryOp .Pow) (rI xF fun i j=>.int (i ^ j.toNat)):=opI fun _ _ _ _ _ _ _ hc q=>pow_int_small hc.1 hc.2.1 hc.2.2 q
theorem unI{f:Value->Sem Value}{g:Int->Int}
  (rule:∀(i:Int)(t:Tok)(s:Shared)(Q:Value->Shared->Prop)(E:Value->Shared->Prop),Q (.int (g i) s.toks) { s with toks:=s.toks+1 }->wpAny (model X.prog X.w) X.A (f (.int i t)) Q E s) :
  UnR X f (rU fun i=>.int (g i)):=by
 intro pins s σ H x v Q I rx h;obtain⟨i,rfl,q⟩:=h;obtain⟨t,rfl⟩:=rx;exact rule i t s _ _ ⟨.int (g i),H,I.tok _,⟨_,rfl⟩,q⟩
theorem lC:UnR X (unaryOp .USub) (rU fun i=>.int (-i)):=unI fun _ _ _ _ _ q=>neg_int q
end
noncomputable def De:V->V->Bool
 | .non,.non=>true|.non,.int _=>true|.int _,.non=>true|.non,.bl _=>true|.bl _,.non=>true|.non,.str _=>true|.str _,.non=>true
 | .int _,.int _=>true|.bl _,.bl _=>true|.str _,.str _=>true|.byt _,.byt _=>true
 | .int _,.str _=>true|.str _,.int _=>true|.bl _,.str _=>true|.str _,.bl _=>true
 | _,_=>false
noncomputable def rEq:R2:=fun x y H Q=>De x y=true/\Q (.bl (decide (x=y))) H
noncomputable def rNe:R2:=fun x y H Q=>De x y=true/\Q (.bl (!decide (x=y))) H
theorem uQ{i j:Int}:decide (V.int i=V.int j)=(i == j):=by
 rw[Qf];simp
theorem xG{i j:Bool}:decide (V.bl i=V.bl j)=(i == j):=by
 rw[Qf];simp
theorem uR{i j:Str}:decide (V.str i=V.str j)=(i == j):=by
 rw[Qf];simp
theorem uS{i j:Array UInt8}:decide (V.byt i=V.byt j)=(i.toList == j.toList):=by
 rw[Qf];cases i;cases j;simp
section
variable {X:Cx}{a b c:Expr}{ta tb tc:TE}{pos:Pos}
theorem bw{pins:List (Addr×Obj)}{σ:St}{H:Hp}{s:Shared}{Q:VK}{k k':Bool}(I:Inv X pins σ H s)(q:Q (.bl k) H)(e:k=k'):EP X pins σ Q (.bool k') s:=by
 subst e;exact⟨.bl k,H,I,rfl,q⟩
theorem Fg:OpR X (compareOp .Eq) rEq:=by
 intro pins s σ H x y v u Q I rx ry h;obtain⟨hs,q⟩:=h;cases x with
 | non =>
  cases rx;cases y with
  | non=>cases ry;exact PySem.EqNone.eq_none_none (bw I q (by simp))
  | bl j=>cases ry;exact PySem.EqNone.eq_none_bool (bw I q (by simp))
  | int j=>obtain⟨t',rfl⟩:=ry;exact PySem.EqNone.eq_none_int (bw I q (by simp))
  | str j=>obtain⟨t',rfl⟩:=ry;exact PySem.EqNone.eq_none_str (bw I q (by simp))
  | _=>exact absurd (show false=true from hs) Yd
 | bl i =>
  cases rx;cases y with
  | non=>cases ry;exact PySem.EqNone.eq_bool_none (bw I q (by simp))
  | bl j=>cases ry;exact eq_bool (bw I q xG)
  | str j=>obtain⟨t',rfl⟩:=ry;exact PySem.EqMixed.eq_bool_str (bw I q (by simp))
  | _=>exact absurd (show false=true from hs) Yd
 | int i =>
  obtain⟨t,rfl⟩:=rx;cases y with
  | non=>cases ry;exact PySem.EqNone.eq_int_none (bw I q (by simp))
  | int j=>obtain⟨t',rfl⟩:=ry;exact eq_int (bw I q uQ)
  | str j=>obtain⟨t',rfl⟩:=ry;exact PySem.EqMixed.eq_int_str (bw I q (by simp))
  | _=>exact absurd (show false=true from hs) Yd
 | str i =>
  obtain⟨t,rfl⟩:=rx;cases y with
  | non=>cases ry;exact PySem.EqNone.eq_str_none (bw I q (by simp))
  | bl j=>cases ry;exact PySem.EqMixed.eq_str_bool (bw I q (by simp))
  | int j=>obtain⟨t',rfl⟩:=ry;exact PySem.EqMixed.eq_str_int (bw I q (by simp))
  | str j=>obtain⟨t',rfl⟩:=ry;exact eq_str (bw I q uR)
  | _=>exact absurd (show false=true from hs) Yd
 | byt i =>
  obtain⟨t,rfl⟩:=rx;cases y with
  | byt j=>obtain⟨t',rfl⟩:=ry;exact PySem.W.eq_bytes (bw I q uS)
  | _=>exact absurd (show false=true from hs) Yd
 | _=>cases y<;>exact absurd (show false=true from hs) Yd
theorem op_ne:OpR X (compareOp .NotEq) rNe:=by
 intro pins s σ H x y v u Q I rx ry h;obtain⟨hs,q⟩:=h;cases x with
 | non =>
  cases rx;cases y with
  | non=>cases ry;exact PySem.EqNone.ne_none_none (bw I q (by simp))
  | bl j=>cases ry;exact PySem.EqNone.ne_none_bool (bw I q (by simp))
  | int j=>obtain⟨t',rfl⟩:=ry;exact PySem.EqNone.ne_none_int (bw I q (by simp))
  | str j=>obtain⟨t',rfl⟩:=ry;exact PySem.EqNone.ne_none_str (bw I q (by simp))
  | _=>exact absurd (show false=true from hs) Yd
 | bl i =>
  cases rx;cases y with
  | non=>cases ry;exact PySem.EqNone.ne_bool_none (bw I q (by simp))
  | bl j=>cases ry;exact ne_bool (bw I q (congrArg not xG))
  | str j=>obtain⟨t',rfl⟩:=ry;exact PySem.EqMixed.ne_bool_str (bw I q (by simp))
  | _=>exact absurd (show false=true from hs) Yd
 | int i =>
  obtain⟨t,rfl⟩:=rx;cases y with
  | non=>cases ry;exact PySem.EqNone.ne_int_none (bw I q (by simp))
  | int j=>obtain⟨t',rfl⟩:=ry;exact ne_int (bw I q (congrArg not uQ))
  | str j=>obtain⟨t',rfl⟩:=ry;exact PySem.EqMixed.ne_int_str (bw I q (by simp))
  | _=>exact absurd (show false=true from hs) Yd
 | str i =>
  obtain⟨t,rfl⟩:=rx;cases y with
  | non=>cases ry;exact PySem.EqNone.ne_str_none (bw I q (by simp))
  | bl j=>cases ry;exact PySem.EqMixed.ne_str_bool (bw I q (by simp))
  | int j=>obtain⟨t',rfl⟩:=ry;exact PySem.EqMixed.ne_str_int (bw I q (by simp))
  | str j=>obtain⟨t',rfl⟩:=ry;exact ne_str (bw I q (congrArg not uR))
  | _=>exact absurd (show false=true from hs) Yd
 | byt i =>
  obtain⟨t,rfl⟩:=rx;cases y with
  | byt j=>obtain⟨t',rfl⟩:=ry;exact PySem.W.ne_bytes (bw I q (congrArg not uS))
  | _=>exact absurd (show false=true from hs) Yd
 | _=>cases y<;>exact absurd (show false=true from hs) Yd
theorem op_lt:OpR X (compareOp .Lt) (rI0 fun i j=>.bl (decide (i<j))):=Dc fun _ _ _ _ _ _ _ q=>lt_int q
theorem Cc:OpR X (compareOp .Gt) (rI0 fun i j=>.bl (decide (j<i))):=Dc fun _ _ _ _ _ _ _ q=>gt_int q
theorem Fh:OpR X (compareOp .GtE) (rI0 fun i j=>.bl (decide (j<=i))):=Dc fun _ _ _ _ _ _ _ q=>ge_int q
theorem wt:OpR X (compareOp .Lt) (fun x y H Q=>∃i j,x=.str i/\y=.str j/\Q (.bl (decide (i.cps.toList<j.cps.toList))) H):=by
 intro pins s σ H x y v u Q I rx ry h;obtain⟨i,j,rfl,rfl,q⟩:=h;obtain⟨t,rfl⟩:=rx;obtain⟨t',rfl⟩:=ry;exact lt_str (bw I q rfl)
theorem op_in_str:OpR X (compareOp .In) (fun x y H Q=>∃i j,x=.str i/\y=.str j/\Q (.bl (!(Builtin.Str.occurrences j i 0 j.length 1).isEmpty)) H):=by
 intro pins s σ H x y v u Q I rx ry h;obtain⟨i,j,rfl,rfl,q⟩:=h;obtain⟨t,rfl⟩:=rx;obtain⟨t',rfl⟩:=ry;exact in_str (bw I q rfl)
theorem qg:OpR X (compareOp .Is) (fun x y H Q=>y=.non/\Q (.bl (decide (x=.non))) H):=by
 intro pins s σ H x y v u Q I rx ry h;obtain⟨rfl,q⟩:=h;cases ry;refine is_none_gen (bw I q ?_);cases x<;>first
  | (cases rx;rfl)
  | (obtain⟨t,rfl⟩:=rx;rfl)
theorem AB:OpR X (compareOp .IsNot) (fun x y H Q=>y=.non/\Q (.bl (!decide (x=.non))) H):=by
 intro pins s σ H x y v u Q I rx ry h;obtain⟨rfl,q⟩:=h;cases ry;refine isnot_none_gen (bw I q ?_);cases x<;>first
  | (cases rx;rfl)
  | (obtain⟨t,rfl⟩:=rx;rfl)
theorem op_notin_str:OpR X (compareOp .NotIn) (fun x y H Q=>∃i j,x=.str i/\y=.str j/\Q (.bl (!(!(Builtin.Str.occurrences j i 0 j.length 1).isEmpty))) H):=by
 intro pins s σ H x y v u Q I rx ry h;obtain⟨i,j,rfl,rfl,q⟩:=h;obtain⟨t,rfl⟩:=rx;obtain⟨t',rfl⟩:=ry;exact notIn_str (bw I q rfl)
theorem OpR.or{f:Value->Value->Sem Value}{r r':R2}(h:OpR X f r)(h':OpR X f r'):OpR X f (fun x y H Q=>r x y H Q∨r' x y H Q):=by
 intro pins s σ H x y v u Q I rx ry q;rcases q with q|q
 ·exact h pins s σ H x y v u Q I rx ry q
 ·exact h' pins s σ H x y v u Q I rx ry q
theorem aU(b:Expr){op:CmpOp}(h:op≠.In:=by decide)(h2:op≠.NotIn:=by decide):behindInMarks op b=false:=by
 have e1:(op == CmpOp.In)=false:=by cases op<;>first|rfl|exact absurd rfl h
 have e2:(op == CmpOp.NotIn)=false:=by cases op<;>first|rfl|exact absurd rfl h2
 cases b<;>simp[behindInMarks,e1,e2]
theorem fL{op:CmpOp}{r:R2}(ho:OpR X (compareOp op) r)(ha:PE X a ta)(hb:PE X b tb)(hm:behindInMarks op b=false):PE X (.Compare a [op] [b] pos) (tOp r ta tb):=by
 intro pins s σ H Q I h;exact wpAny_Compare1 (Db ha hb I h fun v u s2 x y H2 I2 rx ry q=>ho pins s2 σ H2 x y v u Q I2 rx ry q) hm
noncomputable def Cd(t:TE):TT:=fun σ H Q=>t σ H fun x H'=>∃k,x=.bl k/\Q k H'
theorem aO{op:CmpOp}{r:R2}(ho:OpR X (compareOp op) r)(ha:PE X a ta)(hb:PE X b tb)(hm:behindInMarks op b=false):PT X (.Compare a [op] [b] pos) (Cd (tOp r ta tb)):=by
 intro pins s σ H Q I h
 refine wpAny_isTrue_Compare1 (thn (ha pins s σ H _ I h) fun v s1 ⟨x,H1,I1,r1,q1⟩=>thn (hb pins s1 σ H1 _ I1 q1) fun u s2 ⟨y,H2,I2,r2,q2⟩ =>
  thn (ho pins s2 σ H2 x y v u _ I2 r1 r2 q2) fun c s3 ⟨z,H3,I3,r3,k,e,q3⟩=>?_) hm
 subst e;cases r3;exact wpAny_truthy_bool ⟨H3,I3,q3⟩
theorem lD:(sizeLine:Nat)<2 ^ 63:=by rw[sizeLine_eq];decide
theorem op_add_str:OpR X (binaryOp .Add) (fun x y H Q=>∃i j,x=.str i/\y=.str j/\i.length+j.length<=sizeLine/\Q (.str (i++j)) H):=by
 intro pins s σ H x y v u Q I rx ry h;obtain⟨i,j,rfl,rfl,hz,q⟩:=h;obtain⟨t,rfl⟩:=rx;obtain⟨t',rfl⟩:=ry;exact add_str (fun t' tk=>⟨.str (i++j),H,I.tok _,⟨_,rfl⟩,q⟩) hz
theorem vals1{x:V}{us:List Value}(r:Vals [x] us):∃u,us=[u]/\RelV x u:=by
 cases r with
 | cons r1 r2=>cases r2;exact⟨_,rfl,r1⟩
theorem vals2{x y:V}{us:List Value}(r:Vals [x,y] us):∃u w',us=[u,w']/\RelV x u/\RelV y w':=by
 cases r with
 | cons r1 r2 =>
  cases r2 with
  | cons r3 r4=>cases r4;exact⟨_,_,rfl,r1,r3⟩
end
end L2
namespace L2
open PySem PySem.Spec PyProof.Rows
structure ObjM(h:Heap)(x dx C:Addr)(mA:Str->Option Value):Prop where
 obj:h.get? x=some (PySem.W.instObj C dx)
 ns:h.Ns1 dx mA
 ne:dx≠x
set_option tactic.hygienic true in
theorem wu{h:Heap}{dx:Addr}{mA:Str->Option Value}(n:h.Ns1 dx mA):∃od,h.get? dx=some od/\∀name,PySem.W.lookIn name od=some (mA name):=by
 obtain⟨o,es,ep,ho,hd,hk,_,hm⟩:=n;refine⟨o,ho,fun name=>?_⟩;have e:=hm name;unfold nsFind findBy at e;rw[← Array.find?_toList]at e;unfold PySem.W.lookIn;rw[hd];dsimp only;split
 ·rename_i y q
  rw[q]at e;exact congrArg some e
 ·rename_i q
  rw[q]at e;have a:es.toList.any (·.refKey)=false:=by
   rw[List.any_eq_false];intro y hy;obtain⟨z,t,hkey⟩:=hk y (Array.mem_toList_iff.mp hy);simp[DictEntry.refKey,hkey]
  have a':¬ es.toList.any (·.refKey)=true:=by rw[a];exact Yd
  rw[if_neg a'];exact congrArg some e
theorem ObjM.look{h:Heap}{x dx C:Addr}{mA:Str->Option Value}(I:ObjM h x dx C mA):∃od,PySem.W.InstAt h x (PySem.W.instObj C dx) C (some od)/\∀name,PySem.W.lookIn name od=some (mA name) :=
 let ⟨od,ho,hl⟩:=wu I.ns
 ⟨od,⟨I.obj,rfl,rfl,ho⟩,hl⟩
theorem RelO.some_of{v:V}{o:Option Value}(r:RelO (some v) o):∃u,o=some u/\RelV v u:=by
 cases o with
 | none=>exact(show False from r).elim
 | some u=>exact⟨u,rfl,r⟩
section
variable {P:Program}{w:World}{H H':Hp}{h h':Heap}{a C dx:Addr}{fs fs':List (Str×V)}
theorem AC(hok:HOk P w H h)(e:H a=some (.ins C dx fs)):∃mA,ObjM h a dx C mA/\(∀f,RelO (fs.lookup f) (mA f))/\PySem.Within mA (fs.map (·.1))/\fs.length<=1000/\H dx=some (.own a):=by
 obtain⟨d,z,ne,ob,mA,n,r,q⟩:=(show ObjOk P w H h a (.ins C dx fs) from hok a _ e);exact⟨mA,⟨ob,n,ne⟩,r,q,z,d⟩
end
structure Cls(K:PySem.W.Frag)(C:Addr):Prop where
 pg:PySem.W.plainGet K C Str.empty=true
 hd:PySem.W.hasDictIn K C=true
 po:PySem.W.plainOver K C=true
 sa:PySem.W.findIn K (.ref C) "__setattr__"=some (some (.builtin "object.__setattr__"))
theorem Cls.get{K:PySem.W.Frag}{C:Addr}(c:Cls K C)(f:Str):PySem.W.plainGet K C f=true:=c.pg
section
variable {X:Cx}{pins:List (Addr×Obj)}{σ:St}{H:Hp}{s:Shared}{A:Around}{E:Value->Shared->Prop}{Q:Value->Shared->Prop}{c:Value}{b:Bool}
inductive TyOf(K:PySem.W.Frag)(H:Hp):V->Value->Prop where
 | non:TyOf K H .non (.type "NoneType")
 | bl (x:Bool):TyOf K H (.bl x) (.type "bool")
 | int (i:Int):TyOf K H (.int i) (.type "int")
 | str (x:Str):TyOf K H (.str x) (.type "str")
 | flt (x:UInt64):TyOf K H (.flt x) (.type "float")
 | lst {a:Addr} {xs:List V} (e:H a=some (.lst xs)):TyOf K H (.ref a) (.type "list")
 | frz {a:Addr} {o:Obj} {xs:List V} (e:H a=some (.frz o (.lst xs))):TyOf K H (.ref a) (.type "list")
 | tup {a:Addr} {xs:List V} (e:H a=some (.tup xs)):TyOf K H (.ref a) (.type "tuple")
 | dK {a:Addr} {kvs:List (Key×V)} (e:H a=some (.dK kvs)):TyOf K H (.ref a) (.type "dict")
 | dT {a:Addr} {ep:Nat×List Addr} {kvs:List (List Key×V)} (e:H a=some (.dT ep kvs)):TyOf K H (.ref a) (.type "dict")
 | ins {a C dx:Addr} {fs:List (Str×V)} (e:H a=some (.ins C dx fs)) (cl:Cls K C) (ha:PySem.W.findIn K (.ref C) "__class__"=some (some (.builtin "object.__class__")))
   (hn:PySem.W.specialIn K (.builtin "object.__class__") "__get__"=some (some (.builtin "getset_descriptor.__get__"))) (htk:PySem.W.takesIn K (.builtin "object.__class__")=some true)
   (hm:PySem.W.mroIn K C (.type "object")=some true):TyOf K H (.ref a) (.ref C)
theorem ee{x:V}{u t:Value}(I:Inv X pins σ H s)(rx:RelV x u)(ty:TyOf X.K H x t)(e:PySem.W.kitOne X.K t c=some b)(h:∀tk,Q (.bool b) { s with toks:=tk }) :
  wpAny (model X.prog X.w) A (call (.builtin "isinstance") [u,c]) Q E s:=by
 cases ty with
 | non=>cases (show u=Value.none from rx);exact PySem.W.kia_one PySem.W.kitx_none I.kIn True.intro e (fun z=>nomatch z) h
 | bl y=>cases (show u=Value.bool y from rx);exact PySem.W.kia_one PySem.W.kitx_bool I.kIn True.intro e (fun z=>nomatch z) h
 | int i=>obtain⟨t,q⟩:=(show ∃t,u=Value.int i t from rx);cases q;exact PySem.W.kia_one PySem.W.kitx_int I.kIn True.intro e (fun z=>nomatch z) h
 | str y=>obtain⟨t,q⟩:=(show ∃t,u=Value.str y t from rx);cases q;exact PySem.W.kia_one PySem.W.kitx_str I.kIn True.intro e (fun z=>nomatch z) h
 | flt y=>obtain⟨t,q⟩:=(show ∃t,u=Value.float y t from rx);cases q;exact PySem.W.kia_one PySem.W.kitx_float I.kIn True.intro e (fun z=>nomatch z) h
 | @lst a xs ea =>
  cases (show u=Value.ref a from rx);obtain⟨_,_,n,_,h1⟩:=(show ObjOk X.prog X.w H s.heap a (.lst xs) from I.hok a _ ea);exact PySem.W.kia_one PySem.W.kitx_list I.kIn ⟨_,h1,rfl⟩ e (fun z=>nomatch z) h
 | @frz a ob xs ea =>
  cases (show u=Value.ref a from rx);obtain⟨_,_,_,n,_,h1⟩:=(show ObjOk X.prog X.w H s.heap a (.frz ob (.lst xs)) from I.hok a _ ea);exact PySem.W.kia_one PySem.W.kitx_list I.kIn ⟨_,h1,rfl⟩ e (fun z=>nomatch z) h
 | @tup a xs ea =>
  cases (show u=Value.ref a from rx);obtain⟨_,_,_,p⟩:=(show ObjOk X.prog X.w H s.heap a (.tup xs) from I.hok a _ ea);obtain⟨o,h1,h2,_⟩:=p;exact PySem.W.kia_one PySem.W.kitx_tuple I.kIn ⟨o,h1,h2⟩ e (fun z=>nomatch z) h
 | @dK a kvs ea =>
  cases (show u=Value.ref a from rx);obtain⟨_,_,vs,_,p⟩:=(show ObjOk X.prog X.w H s.heap a (.dK kvs) from I.hok a _ ea);obtain⟨o,es,ep,h1,h2,_⟩:=p;exact PySem.W.kia_one PySem.W.kitx_dict I.kIn ⟨o,h1,h2.1⟩ e (fun z=>nomatch z) h
 | @dT a ep kvs ea =>
  cases (show u=Value.ref a from rx);obtain⟨_,_,xs,_,_,o,es,h1,h2,_⟩:=(show ObjOk X.prog X.w H s.heap a (.dT ep kvs) from I.hok a _ ea);exact PySem.W.kia_one PySem.W.kitx_dict I.kIn ⟨o,h1,h2.1⟩ e (fun z=>nomatch z) h
 | @ins a C dx fs ea cl ha hn htk hm =>
  cases (show u=Value.ref a from rx);obtain⟨mA,O,_⟩:=AC I.hok ea;obtain⟨od,J,_⟩:=O.look;exact PySem.W.kia_one (PySem.W.kitx_own (cl.get _) cl.hd ha hn htk hm) I.kIn J e (fun z=>nomatch z) h
end
end L2
namespace L2
open PySem PySem.Spec PyProof.Rows
structure Room(k:Nat)(A:Around):Prop where
 hd:A.handled=none
 dp:A.depth+3*k+5<recursionLimit
 un:A.units+16*k+200<cLine
theorem Room.mono{j k:Nat}{A:Around}(r:Room k A)(h:j<=k):Room j A:=⟨r.hd,by have:=r.dp;lia,by have:=r.un;lia⟩
theorem Room.deeper{k:Nat}{A:Around}(r:Room (k+1) A)(env:Env):Room k (A.deeper env) :=
 ⟨r.hd,by have:=r.dp;show A.depth+1+3*k+5<_;lia,by have:=r.un;show A.units+3+16*k+200<_;lia⟩
theorem Room.in1{k:Nat}{A:Around}(r:Room (k+1) A):Room k A.in1 :=
 ⟨r.hd,by have:=r.dp;show A.depth+3*k+5<_;lia,by have:=r.un;show A.units+1+16*k+200<_;lia⟩
theorem Room.depth{k:Nat}{A:Around}(r:Room k A):A.depth<recursionLimit:=by have:=r.dp;lia
theorem Room.units{k:Nat}{A:Around}(r:Room k A):A.units+64<cLine:=by have:=r.un;lia
noncomputable def wv:TA:=fun _ H Q=>Q [] H
noncomputable def kz(ta:TE)(tr:TA):TA:=fun σ H Q=>ta σ H fun x H1=>tr σ H1 fun xs H2=>Q (x::xs) H2
section
variable {X:Cx}{e:Expr}{es:List Expr}{te:TE}{t:TA}{pos:Pos}
theorem ag:PA X [] wv:=fun _ _ _ _ H Q I h=>Calls.spliced_nil ⟨[],H,I,.nil,h⟩
theorem kB(ha:PE X e te)(hr:PA X es t)(hs:starEach (e::es) X.env=(false,eval e X.env)::starEach es X.env:=by rfl):PA X (e::es) (kz te t):=by
 intro pos pins s σ H Q I h;rw[hs];show wpAny _ _ (spliced ((false,eval e X.env)::backTo pos (starEach es X.env))) _ _ s;refine Calls.spliced_cons (thn (ha pins s σ H _ I h) fun u s1 zz9=>?_);obtain⟨x,H1,I1,r1,q1⟩:=zz9;exact thn (hr pos pins s1 σ H1 _ I1 q1) fun us s2 ⟨xs,H2,I2,r2,q2⟩=>⟨x::xs,H2,I2,.cons r1 r2,q2⟩
noncomputable def Fi(t:TA):TE:=fun σ H Q=>t σ H fun xs H1=>xs.length<=sizeLine/\∀p,H1 p=none->Q (.ref p) (upd H1 p (.tup xs))
noncomputable def Df(t:TA):TE:=fun σ H Q=>t σ H fun xs H1=>xs.length<=sizeLine/\∀p,H1 p=none->Q (.ref p) (upd H1 p (.lst xs))
theorem ce{x1}(h:PA X es t):PE X (.Tuple es x1 pos) (Fi t):=by
 intro pins s σ H Q I hq;refine wpAny_Tuple_spliced (thn (h pos pins s σ H _ I hq) fun us s1 ⟨xs,H1,I1,r,z,q⟩=>⟨by rw[← r.length];exact z,?_⟩)
 have hf:H1 s1.heap.objs.size=none:=I1.hok.fresh (Va _);refine⟨.ref s1.heap.objs.size,upd H1 s1.heap.objs.size (.tup xs),I1.laid (t':=s1.toks) (fun b u e=>Heap.get?_push_of_some _ e) (Va _) ?_,rfl,q _ hf⟩;exact⟨z,us,r,⟨_,Heap.get?_push_size _ rfl,rfl,_,rfl⟩⟩
theorem cC(h:PA X es t):PE X (.List es pos) (Df t):=by
 intro pins s σ H Q I hq;refine wpAny_List_spliced (thn (h pos pins s σ H _ I hq) fun us s1 ⟨xs,H1,I1,r,z,q⟩=>⟨by rw[← r.length];exact z,?_⟩)
 have hf:H1 s1.heap.objs.size=none:=I1.hok.fresh (Va _);refine⟨.ref s1.heap.objs.size,upd H1 s1.heap.objs.size (.lst xs),I1.laid (t':=s1.toks) (fun b u e=>Heap.get?_push_of_some _ e) (Va _) ?_,rfl,q _ hf⟩;exact⟨z,us,0,r,Heap.get?_push_size _ rfl⟩
end
noncomputable abbrev Sp:=List V->Hp->VK->XK->Prop
noncomputable abbrev CXT:=List Env->Hp->Shared->XK->Value->Shared->Prop
structure Env0(P:Program)(w:World)(K:PySem.W.Frag)(mg:Str->Option Value)(base:Heap)(A:Around)(outer:List Env)(s:Shared)(H:Hp):Prop where
 frames:A.frames=some outer
 mod:Mod K mg base
 bs:∀b o,base.get? b=some o->s.heap.get? b=some o/\H b=none
 bsz:base.objs.size<=s.heap.objs.size
 funs:s.heap.FunFrames base outer
 frf:∀b∈frs outer,H b=none
 hok:HOk P w H s.heap
 bare:AllBare s.gens
noncomputable def CE(outer:List Env)(P:Program)(w:World)(H:Hp)(s:Shared)(Q:VK)(u:Value)(s':Shared):Prop :=
 ∃v H',s'.os=s.os/\AllBare s'.gens/\Un (frs outer) [] H H' s.heap s'.heap/\HOk P w H' s'.heap/\RelV v u/\Q v H'
noncomputable def CR(CX:CXT)(outer:List Env)(P:Program)(w:World)(H:Hp)(s:Shared)(Q:VK)(E:XK)(r:Result)(s':Shared):Prop :=
 match r with
 | .ok (.ret u)=>CE outer P w H s Q u s'
 | .ok _=>False
 | .error e=>CX outer H s E e s'
structure FnOk(P:Program)(w:World)(K:PySem.W.Frag)(mg:Str->Option Value)(base:Heap)(CX:CXT)(k:Nat)(f:Addr)(fd:FuncData)(ps:List Str)(sp:Sp):Prop where
 len:∀vs H Q E,sp vs H Q E->vs.length=ps.length
 run:∀(A:Around)(outer:List Env)(s:Shared)(H:Hp)(args:Args)(us:List Value)(vs:List V)(Q:VK)(E:XK),Room k A->Env0 P w K mg base A outer s H->BindsTo s fd args (ps.zip us)->Vals vs us->sp vs H Q E ->
  codeAny (model P w) A (.call (.ref f) args) (CR CX outer P w H s Q E) s
theorem FnOk.imp{P:Program}{w:World}{K:PySem.W.Frag}{mg:Str->Option Value}{base:Heap}{CX:CXT}{k:Nat}{f:Addr}{fd:FuncData}{ps:List Str}{sp sp':Sp}(F:FnOk P w K mg base CX k f fd ps sp)
  (h:∀vs H Q E,sp' vs H Q E->sp vs H Q E):FnOk P w K mg base CX k f fd ps sp' :=
 ⟨fun vs H Q E q=>F.len vs H Q E (h _ _ _ _ q),fun A outer s H args us vs Q E hr he hb hv hs=>F.run A outer s H args us vs Q E hr he hb hv (h _ _ _ _ hs)⟩
theorem Env0.in1{P:Program}{w:World}{K:PySem.W.Frag}{mg:Str->Option Value}{base:Heap}{A:Around}{outer:List Env}{s:Shared}{H:Hp}(e:Env0 P w K mg base A outer s H) :
  Env0 P w K mg base A.in1 outer s H:=⟨e.frames,e.mod,e.bs,e.bsz,e.funs,e.frf,e.hok,e.bare⟩
section
variable {X:Cx}{pins:List (Addr×Obj)}{σ:St}{H:Hp}{s s':Shared}
theorem Inv.env0(I:Inv X pins σ H s):Env0 X.prog X.w X.K X.mg X.base X.A X.stack s H :=
 ⟨I.ok.frames,I.ok.mod,I.bs,Xe I.ok.bsz I.sz,I.stack,I.stkFree,I.hok,I.bare⟩
theorem Inv.after{Q:VK}{u:Value}(I:Inv X pins σ H s)(h:CE X.stack X.prog X.w H s Q u s'):EP X pins σ Q u s':=by
 obtain⟨v,H',os,bare,un,hok,r,q⟩:=h;obtain⟨hh,g,d,t,os'⟩:=s';obtain rfl:os'=s.os:=os;exact⟨v,H',I.call (h':=hh) (g':=g) (d':=d) (t':=t) (ch:=[]) un hok bare (fun b z=>absurd z (by simp)),r,q⟩
end
noncomputable def xH(sp:Sp)(dvs:List V)(E:XK)(t:TA):TE:=fun σ H Q=>t σ H fun vs H1=>sp (vs++dvs) H1 Q E
noncomputable def Binds(K:PySem.W.Frag)(fd:FuncData)(ps:List Str)(ds:List Value):Prop :=
 ∀(s:Shared)(us:List Value),K.In s.heap->(us++ds).length=ps.length->BindsTo s fd ⟨us,[]⟩ (ps.zip (us++ds))
theorem Binds.all{K:PySem.W.Frag}{fd:FuncData}{ps:List Str}(h:∀us:List Value,us.length=ps.length->bindArgs fd ⟨us,[]⟩=pure (ps.zip us)):Binds K fd ps []:=fun s us _ hl=>by
 rw[Ve]at hl ⊢;exact .of_eq (h us hl)
noncomputable def tQ(CX:CXT)(X:Cx)(E:XK):Prop:=∀(pins:List (Addr×Obj))(σ:St)(H:Hp)(s:Shared)(e:Value)(s':Shared),Inv X pins σ H s->CX X.stack H s E e s'->X.xe e s'
section
variable {X:Cx}{CX:CXT}{k:Nat}{f C:Addr}{fd:FuncData}{ps:List Str}{sp:Sp}{dvs:List V}{ds:List Value}{E:XK}{x m:Str}{p pos apos:Pos}{e o:Expr}{es:List Expr}{ta:TE}{t:TA}
theorem Dg{pins:List (Addr×Obj)}{σ:St}{H:Hp}{s:Shared}{Q:VK}{us:List Value}{vs:List V}(F:FnOk X.prog X.w X.K X.mg X.base CX k f fd ps sp)(hr:Room k X.A)(hb:Binds X.K fd ps ds)(hd:Vals dvs ds)(hx:tQ CX X E)
  (I:Inv X pins σ H s)(r:Vals vs us)(h:sp (vs++dvs) H Q E):wpAny (model X.prog X.w) X.A (call (.ref f) us) (EP X pins σ Q) X.xe s:=by
 have r2:Vals (vs++dvs) (us++ds):=r.append hd;have hl:(us++ds).length=ps.length:=by rw[← r2.length];exact F.len _ _ _ _ h
 refine wpAny_call (codeAny_mono (F.run X.A X.stack s H ⟨us,[]⟩ (us++ds) (vs++dvs) Q E hr I.env0 (hb s us I.kIn hl) r2 h) fun r s' hq=>?_);cases r with
 | error e=>exact hx pins σ H s e s' I hq
 | ok fl =>
  cases fl with
  | ret u=>exact I.after hq
  | next=>exact False.elim hq
  | brk=>exact False.elim hq
  | cont=>exact False.elim hq
theorem AD(F:FnOk X.prog X.w X.K X.mg X.base CX k f fd ps sp)(hr:Room k X.A)(hg:Gl X x)(hm:X.mg x=some (.ref f))(hk:PySem.W.keepIn X.K (.ref f)=true)(hb:Binds X.K fd ps ds)(hd:Vals dvs ds)(hx:tQ CX X E)
  (ha:PA X (e::es) t)(hdb:(x == ("__debug__":Str))=false:=by decide)(he:starEach (e::es) X.env=(false,eval e X.env)::starEach es X.env:=by rfl)(hpl:(backTo pos (starEach es X.env)).any (·.1)=false:=by rfl) :
  PE X (.Call (.Name x p) (e::es) [] pos) (xH sp dvs E t):=by
 intro pins s σ H Q I h;refine wpAny_Call_Name_kw (uN I hg hm ?_ hdb);refine PySem.W.callWith_K (h₀:=X.base) I.ok.mod.kin hk (thn (ha pos pins s σ H _ I h) fun us s1 ⟨vs,H1,I1,r,q⟩=>⟨I1.kIn,?_⟩) he hpl;exact Dg F hr hb hd hx I1 r q
end
structure FnScope(N P:List Str)(sc:Scope):Prop where
 kind:sc.kind=.function
 co:sc.isCoroutine=false
 gen:sc.isGenerator=false
 nd:N.Nodup
 pre:N.take P.length=P
 par:∀x∈P,sc.names.lookup x=some .local∨sc.names.lookup x=some .cell
 nofree:∀y∈sc.names,y.2≠.free
theorem ph{kindOf:Str->Option NameKind}{x:Str}:∀{binds:List (Str×Value)}{m:Str->Option Value},(∀v,(x,v)∉binds)->bindL kindOf binds m x=m x
 | [],_,_=>rfl
 | (n,v)::r,m,h=>by
  unfold bindL;rw[ph fun w hw=>h w (Xb _ hw)];split
  ·have:x≠n:=by rintro rfl;exact h v Zc
   simp[this]
  ·rfl
theorem pi{kindOf:Str->Option NameKind}{x:Str}:∀{binds:List (Str×Value)}{m:Str->Option Value},(∀v,(x,v)∉binds)->bindC kindOf binds m x=m x
 | [],_,_=>rfl
 | (n,v)::r,m,h=>by
  unfold bindC;rw[pi fun w hw=>h w (Xb _ hw)];split
  ·rfl
  ·have:x≠n:=by rintro rfl;exact h v Zc
   simp[this]
theorem pp{kindOf:Str->Option NameKind}{x:Str}{v:Value}:∀{P:List Str}{vs:List Value}{i:Nat}{m:Str->Option Value},P.Nodup->P[i]?=some x->vs[i]?=some v->kindOf x=some .local ->
  bindL kindOf (P.zip vs) m x=some v
 | [],_,_,_,_,h,_,_=>by simp at h
 | _::_,[],_,_,_,_,h,_=>by simp at h
 | p::P,w::vs,0,m,nd,h1,h2,hk=>by
  simp at h1 h2;subst h1;subst h2;show bindL kindOf ((p,w)::P.zip vs) m p=_;unfold bindL;rw[ph fun v hv=>(Vk.mp nd).1 (List.of_mem_zip hv).1,if_pos hk];simp
 | p::P,w::vs,i+1,m,nd,h1,h2,hk=>by
  show bindL kindOf ((p,w)::P.zip vs) m x=_;unfold bindL;exact pp (i:=i) (Vk.mp nd).2 (by simpa using h1) (by simpa using h2) hk
theorem pq{kindOf:Str->Option NameKind}{x:Str}{v:Value}:∀{P:List Str}{vs:List Value}{i:Nat}{m:Str->Option Value},P.Nodup->P[i]?=some x->vs[i]?=some v->kindOf x≠some .local ->
  bindC kindOf (P.zip vs) m x=some v
 | [],_,_,_,_,h,_,_=>by simp at h
 | _::_,[],_,_,_,_,h,_=>by simp at h
 | p::P,w::vs,0,m,nd,h1,h2,hk=>by
  simp at h1 h2;subst h1;subst h2;show bindC kindOf ((p,w)::P.zip vs) m p=_;unfold bindC;rw[pi fun v hv=>(Vk.mp nd).1 (List.of_mem_zip hv).1,if_neg hk];simp
 | p::P,w::vs,i+1,m,nd,h1,h2,hk=>by
  show bindC kindOf ((p,w)::P.zip vs) m x=_;unfold bindC;exact pq (i:=i) (Vk.mp nd).2 (by simpa using h1) (by simpa using h2) hk
noncomputable def start(N:List Str)(vs:List V):St:=vs.map some++List.replicate (N.length-vs.length) none
noncomputable def tR(CX:CXT)(P:Program)(w:World)(K:PySem.W.Frag)(mg:Str->Option Value)(base:Heap)(N:List Str)(qual:Str)(scope:Scope)(f:Addr)(cd:Value)(A:Around)(outer:List Env)(s:Shared)(H:Hp)(E:XK):Cx where
 prog:=P
 w:=w
 K:=K
 mg:=mg
 base:=base
 A:=A.deeper (envOfC qual scope s.heap.objs.size f cd)
 N:=N
 s₀:=s
 H₀:=H
 env:=envOfC qual scope s.heap.objs.size f cd
 outer:=outer
 stack:=envOfC qual scope s.heap.objs.size f cd::outer
 ex:=[]
 calm:=true
 fn:=fun _=>true
 pn:=[]
 xe:=fun e s'=>wpAny (model P w) (A.deeper (envOfC qual scope s.heap.objs.size f cd)) (leaving (envOfC qual scope s.heap.objs.size f cd) e) (fun _ s''=>CX outer H s E e s'') (fun e' s''=>CX outer H s E e' s'') s'
theorem rE{sc:Scope}{n:Nat}{x:Str}(h:sc.names.lookup x=some .cell):∃c,(cellsFrom n sc.names []).lookup x=some c:=by
 have q:=PySem.W.cellsFrom_some sc.names n [] (.inl h);exact Option.isSome_iff_exists.mp q
theorem ww{CX:CXT}{P:Program}{w:World}{K:PySem.W.Frag}{mg:Str->Option Value}{base:Heap}{N ps:List Str}{qual:Str}{scope:Scope}{f:Addr}{cd:Value}{A:Around}{outer:List Env}{s s1:Shared}{H:Hp}{E:XK}{us:List Value}{vs:List V}
  (S:FnScope N ps scope)(hd:A.handled=none)(e0:Env0 P w K mg base A outer s H)(hl:vs.length=ps.length)(r:Vals vs us)
  (x:InCallC s s.heap.objs.size (bindL (envOfC qual scope s.heap.objs.size f cd).kindOf (ps.zip us) fun _=>none) (cellsFrom (s.heap.objs.size+1) scope.names []) (bindC (envOfC qual scope s.heap.objs.size f cd).kindOf (ps.zip us) fun _=>none) s1) :
  Inv (tR CX P w K mg base N qual scope f cd A outer s H E) [] (start N vs) H s1:=by
 have hpl:ps.length<=N.length:=by have:=congrArg List.length S.pre;rw[Qk]at this;lia
 obtain⟨h1,tk,rfl,hk⟩:=x.done;have noA:∀b:Addr,b∉(tR CX P w K mg base N qual scope f cd A outer s H E).ex:=fun b z=>absurd (show b∈([]:List Addr) from z) (by simp)
 refine⟨⟨e0.mod,S.kind,rfl,rfl,Va _,fun y z c h1 h2=>?_,fun y hy=>?_,fun y c _ h=>?_,fun _=>hd,Around.frames_deeper e0.frames,.inr ⟨rfl,rfl⟩,fun b z=>absurd z (noA b),e0.bs,e0.bsz,fun b _ _=>noA b,fun b z=>absurd z (noA b),e0.funs,e0.frf⟩,
  rfl,e0.bare,Un.kept hk,⟨_,x.toInCall.ns,fun i y v h1 h2 h3=>?_⟩,fun y c h=>⟨_,x.cell y c h⟩,e0.hok.fresh (Va _),fun y c h=>?_,fun p hp=>absurd (show p∈([]:List (Addr×Obj)) from hp) (by simp),e0.hok.kept hk,?_⟩
 ·exact name_of_addr x.apart (PySem.mem_of_lookup h1) (PySem.mem_of_lookup h2)
 ·have hy:scope.names.lookup y=some .cell∨scope.names.lookup y=some .free:=hy;rcases hy with hy|hy
  ·exact rE hy
  ·exact absurd rfl (S.nofree _ (PySem.mem_of_lookup hy))
 ·exact Zk (x.above y c (PySem.mem_of_lookup h))
 ·have hi:i<vs.length:=by
   unfold start at h2;by_cases hi:i<vs.length
   ·exact hi
   ·rw[Ye (by simpa using hi)]at h2
    rw[Xj]at h2;split at h2<;>cases h2
  have ha:vs[i]?=some v:=by
   unfold start at h2;rw[Yf (by simpa using hi),Wc]at h2
   cases e:vs[i]? with
   | none=>rw[e]at h2;cases h2
   | some a=>rw[e]at h2;cases h2;rfl
  obtain⟨u,hu,rv⟩:=r.get ha;have hp:ps[i]?=some y:=by
   rw[← S.pre,List.getElem?_take_of_lt (by lia)];exact h1
  have ndP:ps.Nodup:=by rw[← S.pre];exact S.nd.sublist (List.take_sublist _ _)
  refine⟨u,rv,?_⟩;rcases S.par y (Wa hp) with k|k
  ·exact .inl ⟨k,pp ndP hp hu k⟩
  ·obtain⟨c,e⟩:=rE (n:=s.heap.objs.size+1) k;refine .inr ⟨.inl k,c,e,?_⟩;have q:=x.cell y c e;rw[pq ndP hp hu (by show scope.names.lookup y≠_;rw[k];decide)]at q
   exact q
 ·exact e0.hok.fresh (Zk (x.above y c (PySem.mem_of_lookup h)))
 ·unfold start;show _=N.length;rw[Xa,Ya,Xh];lia
theorem Fj{CX:CXT}{P:Program}{w:World}{K:PySem.W.Frag}{mg:Str->Option Value}{base:Heap}{k:Nat}{f:Addr}{name qual:Str}{params:Arguments}{body:List Stmt}{scope:Scope}{dV kV doc pm cdv ct oc:Value}{an od:Option Addr}
  {osl:Array (Option Value)}{N ps:List Str}{sp:Sp}(lk:K.lookup f=some ⟨oc,od,.func (PySem.W.fnOf name qual params body scope dV kV doc pm an cdv ct),osl⟩)(hcd:PySem.W.codeIn K cdv qual=true)(S:FnScope N ps scope)
  (len:∀vs H Q E,sp vs H Q E->vs.length=ps.length)
  (hbody:∀(A:Around)(outer:List Env)(s:Shared)(H:Hp)(vs:List V)(Q:VK)(E:XK),Room k (A.deeper (envOfC qual scope s.heap.objs.size f cdv))->sp vs H Q E ->
   ∃t,PSs (tR CX P w K mg base N qual scope f cdv A outer s H E) body t/\t { nx:=fun _ H'=>Q .non H',rt:=Q } (start N vs) H) :
  FnOk P w K mg base CX (k+1) f (PySem.W.fnOf name qual params body scope dV kV doc pm an cdv ct) ps sp:=by
 refine⟨len,fun A outer s H args us vs Q E hr e0 hb r hsp=>?_⟩;have hl:=len _ _ _ _ hsp;have KX:K.In s.heap:=e0.mod.kin.keeps fun b o e=>(e0.bs b o e).1;have lim:s.heap.NoLimit:=e0.mod.nolimit.keeps fun b o e=>(e0.bs b o e).1;have hkind:∀y∈ps.zip us,scope.names.lookup y.1=some .local∨(scope.names.lookup y.1=some .cell/\((cellsFrom (s.heap.objs.size+1) scope.names []).lookup y.1).isSome=true):=fun⟨n,v⟩ hy=>by
  rcases S.par n (List.of_mem_zip hy).1 with q|q
  ·exact .inl q
  ·exact .inr ⟨q,PySem.W.cellsFrom_some _ _ _ (.inl q)⟩
 refine codeAny_call_function hr.depth (KX _ _ lk) rfl S.co S.gen rfl (PySem.W.codeRec_of KX hcd) (hb _ _ _ _ ?_);refine wpAny_newFunctionEnv_cells S.kind hkind fun env he s1 x=>?_;subst he;refine⟨lim.keeps x.toInCall.keep,codeAny_func ?_⟩;obtain⟨t,ht,hq⟩:=hbody A outer s H vs Q E (hr.deeper _) hsp;have I:Inv (tR CX P w K mg base N qual scope f cdv A outer s H E) [] (start N vs) H s1:=ww S hr.hd e0 hl r x;refine wpAny_mono (ht [] s1 (start N vs) H _ I hq) (fun fl s' hs=>?_) fun e s' hs=>hs;have fin:∀{σ':St}{H':Hp}{v:V}{u:Value},Inv (tR CX P w K mg base N qual scope f cdv A outer s H E) [] σ' H' s'->RelV v u->Q v H'->CE outer P w H s Q u s' :=
  fun {σ' H' v u} J rv q=>⟨v,H',J.os,J.bare,J.base,J.hok,rv,q⟩
 cases fl with
 | ret u =>
  obtain⟨v,σ',H',J,rv,q⟩:=hs;exact fin J rv q
 | next =>
  obtain⟨σ',H',J,q⟩:=hs;exact fin (v:=V.non) (u:=Value.none) J rfl q
 | brk =>
  obtain⟨_,_,_,q⟩:=hs;exact False.elim q
 | cont =>
  obtain⟨_,_,_,q⟩:=hs;exact False.elim q
end L2
namespace L2
open PySem PySem.Spec PyProof.Rows
section
variable {X:Cx}{x:Str}{p pos:Pos}{e:Expr}{es:List Expr}{t:TA}{id T:String}{r:List V->Hp->VK->Prop}
noncomputable def tCB(r:List V->Hp->VK->Prop)(t:TA):TE:=fun σ H Q=>t σ H fun vs H1=>r vs H1 Q
theorem aI(hc:CallR X (.builtin id) r)(hg:Gl X x)(hm:X.mg x=none)(hv:bootBuiltins x=some (.builtin id))(ha:PA X (e::es) t)(hn:x≠"__name__":=by decide)(hdb:(x == ("__debug__":Str))=false:=by decide)
  (he:starEach (e::es) X.env=(false,eval e X.env)::starEach es X.env:=by rfl) (hpl:(backTo pos (starEach es X.env)).any (·.1)=false:=by rfl):PE X (.Call (.Name x p) (e::es) [] pos) (tCB r t):=by
 intro pins s σ H Q I h;refine wpAny_Call_Name_kw (jM I hg hm hv ?_ hn hdb);exact PyProof.Rows.callWith_builtin1 (thn (ha pos pins s σ H _ I h) fun us s1 ⟨vs,H1,I1,r1,q1⟩=>hc pins s1 σ H1 vs us Q I1 r1 q1) he hpl
theorem bN(hc:CallR X (.type T) r)(hg:Gl X x)(hm:X.mg x=none)(hv:bootBuiltins x=some (.type T))(ha:PA X (e::es) t)(hn:x≠"__name__":=by decide)(hdb:(x == ("__debug__":Str))=false:=by decide)
  (he:starEach (e::es) X.env=(false,eval e X.env)::starEach es X.env:=by rfl) (hpl:(backTo pos (starEach es X.env)).any (·.1)=false:=by rfl):PE X (.Call (.Name x p) (e::es) [] pos) (tCB r t):=by
 intro pins s σ H Q I h;refine wpAny_Call_Name_kw (jM I hg hm hv ?_ hn hdb);exact PyProof.Rows.callWith_type1 (thn (ha pos pins s σ H _ I h) fun us s1 ⟨vs,H1,I1,r1,q1⟩=>hc pins s1 σ H1 vs us Q I1 r1 q1) he hpl
end
end L2
namespace L2
open PySem PySem.Spec PyProof.Rows
section
variable {κ:Type}[DecidableEq κ]
noncomputable def jw(kvs:List (κ×V))(k:κ):Option V:=(kvs.find? fun kv=>decide (kv.1=k)).map (·.2)
noncomputable def putK(kvs:List (κ×V))(k:κ)(v:V):List (κ×V) :=
 if (kvs.any fun kv=>decide (kv.1=k))=true then kvs.map (fun kv=>if kv.1=k then(kv.1,v) else kv) else kvs++[(k,v)]
theorem kC{p:κ×V}{r:List (κ×V)}{k:κ}(e:p.1=k):jw (p::r) k=some p.2:=by simp[jw,Xl,e]
theorem kD{p:κ×V}{r:List (κ×V)}{k:κ}(e:¬ p.1=k):jw (p::r) k=jw r k:=by simp[jw,Xl,e]
theorem rF(k:κ):∀kvs:List (κ×V),(kvs.any fun kv=>decide (kv.1=k))=(jw kvs k).isSome
 | []=>rfl
 | p::r=>by
  rw[List.any_cons];by_cases e:p.1=k
  ·simp only[kC e,decide_eq_true e,Bool.true_or,Option.isSome_some]
  ·rw[kD e,decide_eq_false e,Bool.false_or];exact rF k r
theorem lU(kvs:List (κ×V))(k:κ)(v:V):(putK kvs k v).length<=kvs.length+1:=by
 unfold putK;split
 ·rw[Ya];lia
 ·rw[Xa,Qd,Zh];lia
theorem RelO.isSome_eq{o:Option V}{u:Option Value}(r:RelO o u):o.isSome=u.isSome:=by
 cases o with
 | none=>cases u with
  | none=>rfl
  | some _=>exact(show False from r).elim
 | some _=>cases u with
  | none=>exact(show False from r).elim
  | some _=>rfl
theorem KV.val{kvs:List (κ×V)}{vs:List (κ×Value)}(r:KV kvs vs)(k:κ):RelO (jw kvs k) (valueAt vs k):=by
 unfold KV at r;induction r with
 | nil=>exact True.intro
 | @cons p q ps qs h t ih =>
  obtain⟨h1,h2⟩:=h;by_cases e:p.1=k
  ·have e':q.1=k:=h1.symm.trans e;have b:valueAt (q::qs) k=some q.2:=by simp[valueAt,Xl,e']
   rw[kC e,b];exact h2
  ·have e':¬ q.1=k:=fun z=>e (h1.trans z);have b:valueAt (q::qs) k=valueAt qs k:=by simp[valueAt,Xl,e']
   rw[kD e,b];exact ih
theorem KV.any{kvs:List (κ×V)}{vs:List (κ×Value)}(r:KV kvs vs)(k:κ):(kvs.any fun kv=>decide (kv.1=k))=vs.any fun kv=>decide (kv.1=k):=by
 unfold KV at r;induction r with
 | nil=>rfl
 | cons h t ih=>rw[List.any_cons,List.any_cons,ih,h.1]
theorem KV.repl{kvs:List (κ×V)}{vs:List (κ×Value)}(r:KV kvs vs)(k:κ){y:V}{u:Value}(ry:RelV y u) :
  KV (kvs.map fun kv=>if kv.1=k then(kv.1,y) else kv) (vs.map fun kv=>if kv.1=k then(kv.1,u) else kv):=by
 unfold KV at r ⊢;induction r with
 | nil=>exact .nil
 | @cons p q ps qs h t ih =>
  rw[Xf,Xf];refine .cons ?_ ih;obtain⟨h1,h2⟩:=h;by_cases e:p.1=k
  ·rw[if_pos e,if_pos (h1.symm.trans e)];exact⟨h1,ry⟩
  ·rw[if_neg e,if_neg (fun z=>e (h1.trans z))];exact⟨h1,h2⟩
theorem KV.put{kvs:List (κ×V)}{vs:List (κ×Value)}(r:KV kvs vs)(k:κ){y:V}{u:Value}(ry:RelV y u):KV (putK kvs k y) (stored vs k u):=by
 unfold putK stored;rw[r.any k];by_cases e:(vs.any fun kv=>decide (kv.1=k))=true
 ·rw[if_pos e,if_pos e];exact r.repl k ry
 ·rw[if_neg e,if_neg e];exact Paired.snoc r ⟨rfl,ry⟩
theorem KV.length{kvs:List (κ×V)}{vs:List (κ×Value)}(r:KV kvs vs):kvs.length=vs.length:=Paired.length r
end
theorem uT{P:Program}{w:World}{k:Key}{u:Value}(r:RelV (kV k) u):(cG P w).is k u=true:=by
 cases k with
 | inl i=>obtain⟨t,e⟩:=(show ∃t,u=Value.int i t from r);subst e;exact rB P w i t
 | inr x=>obtain⟨t,e⟩:=(show ∃t,u=Value.str x t from r);subst e;exact rC P w x t
theorem px{P:Program}{w:World}:∀{ks:List Key}{us:List Value},Vals (ks.map kV) us->ItemsAre (cG P w) ks us
 | [],_,r=>by rw[List.map_nil]at r;cases r;exact .nil
 | k::ks,_,r=>by
  rw[Xf]at r;cases r with
  | cons h t=>exact .cons (uT h) (px t)
noncomputable abbrev KT(H:Hp):List (List Key×V)->List (List Key×Addr×Value)->Prop:=Paired fun p q=>p.1=q.1/\H q.2.1=some (.tup (p.1.map kV))/\RelV p.2 q.2.2
theorem KT.val{H:Hp}{kvs:List (List Key×V)}{xs:List (List Key×Addr×Value)}(r:KT H kvs xs)(k:List Key):RelO (jw kvs k) ((atKey xs k).map (·.2)):=by
 induction r with
 | nil=>exact True.intro
 | @cons p q ps qs h t ih =>
  obtain⟨h1,_,h2⟩:=h;by_cases e:p.1=k
  ·have e':q.1=k:=h1.symm.trans e;have b:atKey (q::qs) k=some q.2:=by simp[atKey,Xl,e']
   rw[kC e,b];exact h2
  ·have e':¬ q.1=k:=fun z=>e (h1.trans z);have b:atKey (q::qs) k=atKey qs k:=by simp[atKey,Xl,e']
   rw[kD e,b];exact ih
theorem KT.repl{H:Hp}{kvs:List (List Key×V)}{xs:List (List Key×Addr×Value)}(r:KT H kvs xs)(k:List Key){y:V}{u:Value}(ry:RelV y u) :
  KT H (kvs.map fun kv=>if kv.1=k then(kv.1,y) else kv) (xs.map (putAt k u)):=by
 induction r with
 | nil=>exact .nil
 | @cons p q ps qs h t ih =>
  rw[Xf,Xf];refine .cons ?_ ih;obtain⟨h1,h2,h3⟩:=h;unfold putAt;by_cases e:p.1=k
  ·rw[if_pos e,if_pos (h1.symm.trans e)];exact⟨h1,h2,ry⟩
  ·rw[if_neg e,if_neg (fun z=>e (h1.trans z))];exact⟨h1,h2,h3⟩
theorem KT.put{H:Hp}{kvs:List (List Key×V)}{xs:List (List Key×Addr×Value)}(r:KT H kvs xs)(k:List Key){b:Addr}{y:V}{u:Value}(hb:H b=some (.tup (k.map kV)))(ry:RelV y u) :
  KT H (putK kvs k y) (storedH xs k b u):=by
 have e:(kvs.any fun kv=>decide (kv.1=k))=(atKey xs k).isSome:=by
  rw[rF,(r.val k).isSome_eq,Option.isSome_map]
 unfold putK storedH;rw[e];by_cases q:(atKey xs k).isSome=true
 ·rw[if_pos q,if_pos q];exact r.repl k ry
 ·rw[if_neg q,if_neg q];exact Paired.snoc r ⟨rfl,hb,ry⟩
theorem KT.keeps{H H':Hp}{kvs:List (List Key×V)}{xs:List (List Key×Addr×Value)}(r:KT H kvs xs)(ht:∀b ys,H b=some (.tup ys)->H' b=some (.tup ys)):KT H' kvs xs :=
 Paired.mapP r fun _ _ z=>⟨z.1,ht _ _ z.2.1,z.2.2⟩
section
variable {P:Program}{w:World}{H:Hp}{h:Heap}{a:Addr}
theorem Ce{u:HO}(ok:HOk P w H h)(e:Rd H a u):ObjOk P w H h a u:=e.ok ok
theorem uU{kvs:List (Key×V)}(ok:HOk P w H h)(e:Rd H a (.dK kvs)):kvs.length<=sizeLine/\(a == sysModules)=false/\∃vs,KV kvs vs/\h.DictOf (cG P w) a vs :=
 show ObjOk P w H h a (.dK kvs) from Ce ok e
theorem Fk{kvs:List (Key×V)}(ok:HOk P w H h)(e:H a=some (.dK kvs)):kvs.length<=sizeLine/\(a == sysModules)=false/\∃vs,KV kvs vs/\h.DictOf (cG P w) a vs:=uU ok (.inl e)
theorem nu{ks:List Key}(ok:HOk P w H h)(e:H a=some (.tup (ks.map kV))):(tupleKind (cG P w)).is h ks a:=by
 obtain⟨_,its,r,o,h1,h2,n,h3⟩:=(show ObjOk P w H h a (.tup (ks.map kV)) from ok a _ e);exact⟨o,its.toArray,n,h1,h2,h3,by simpa using px r⟩
theorem xI{ep:Nat×List Addr}{kvs:List (List Key×V)}(ok:HOk P w H h)(e:Rd H a (.dT ep kvs)):kvs.length<=sizeLine/\(a == sysModules)=false /\
  ∃xs,KT H kvs xs/\h.DictOfH (tupleKind (cG P w)) a xs:=by
 obtain⟨z,y,xs,r,_,o,es,h1,h2,h3,h4,h5⟩:=(show ObjOk P w H h a (.dT ep kvs) from Ce ok e);refine⟨z,y,xs,r,o,es,ep.1,h1,h2,h3,h4,fun x hx=>?_,h5⟩;have all:∀{l:List (List Key×V)}{m:List (List Key×Addr×Value)},KT H l m->∀x∈m,(tupleKind (cG P w)).is h x.1 x.2.1:=by
  intro l m q;induction q with
  | nil=>intro x hx;exact nomatch hx
  | @cons p q ps qs hq t ih =>
   intro x hx;rcases Ze.mp hx with e|hx
   ·subst e;exact nu ok (by rw[← hq.1];exact hq.2.1)
   ·exact ih x hx
 exact all r x hx
end
section
variable {P:Program}{w:World}{H:Hp}{h:Heap}{a:Addr}
theorem Fm{ep:Nat×List Addr}{kvs:List (List Key×V)}(ok:HOk P w H h)(e:H a=some (.dT ep kvs)):kvs.length<=sizeLine/\(a == sysModules)=false /\
  ∃xs,KT H kvs xs/\xs.map (·.2.1)=ep.2/\h.DictOfH (tupleKind (cG P w)) a xs:=by
 obtain⟨z,y,xs,r,ra,o,es,h1,h2,h3,h4,h5⟩:=(show ObjOk P w H h a (.dT ep kvs) from ok a _ e);refine⟨z,y,xs,r,ra,o,es,ep.1,h1,h2,h3,h4,fun x hx=>?_,h5⟩;have all:∀{l:List (List Key×V)}{m:List (List Key×Addr×Value)},KT H l m->∀x∈m,(tupleKind (cG P w)).is h x.1 x.2.1:=fun {l m} q=>by
  induction q with
  | nil=>exact fun x hx=>nomatch hx
  | cons hq t ih =>
   intro x hx;rcases Ze.mp hx with e'|hx
   ·subst e';exact nu ok (by rw[← hq.1];exact hq.2.1)
   ·exact ih x hx
 exact all r x hx
end
noncomputable def DGet(H:Hp)(a:Addr)(y:V)(r:Option V):Prop :=
 (∃kvs k,Rd H a (.dK kvs)/\y=kV k/\r=jw kvs k)∨∃ep kvs k b,Rd H a (.dT ep kvs)/\y=.ref b/\H b=some (.tup (k.map kV))/\r=jw kvs k
noncomputable def wx(as:List Addr)(kvs:List (List Key×V))(k:List Key)(b:Addr):List Addr:=if (jw kvs k).isSome=true then as else as++[b]
noncomputable def Fn(H:Hp)(a:Addr)(y v:V)(R:Hp->Prop):Prop :=
 (∃kvs k,H a=some (.dK kvs)/\y=kV k/\kvs.length<sizeLine/\R (upd H a (.dK (putK kvs k v)))) ∨
 ∃ep kvs k b,H a=some (.dT ep kvs)/\y=.ref b/\H b=some (.tup (k.map kV))/\kvs.length<sizeLine/\∀n,R (upd H a (.dT (n,wx ep.2 kvs k b) (putK kvs k v)))
theorem DGet.k{H:Hp}{a:Addr}{kvs:List (Key×V)}{k:Key}(e:H a=some (.dK kvs)):DGet H a (kV k) (jw kvs k):=.inl ⟨kvs,k,.inl e,rfl,rfl⟩
theorem DGet.t{H:Hp}{a b:Addr}{ep:Nat×List Addr}{kvs:List (List Key×V)}{k:List Key}(e:H a=some (.dT ep kvs))(eb:H b=some (.tup (k.map kV))):DGet H a (.ref b) (jw kvs k):=.inr ⟨ep,kvs,k,b,.inl e,rfl,eb,rfl⟩
theorem Dh{H:Hp}{kvs:List (List Key×V)}{xs:List (List Key×Addr×Value)}{as:List Addr}{k:List Key}{b:Addr}{u:Value}(ra:xs.map (·.2.1)=as)(rel:KT H kvs xs):(storedH xs k b u).map (·.2.1)=wx as kvs k b:=by
 have e:(jw kvs k).isSome=(atKey xs k).isSome:=by rw[(rel.val k).isSome_eq,Option.isSome_map]
 unfold storedH wx;rw[e];by_cases q:(atKey xs k).isSome=true
 ·rw[if_pos q,if_pos q,← ra,Xg];refine Xk fun x _=>?_;show(putAt k u x).2.1=x.2.1;unfold putAt;split<;>rfl
 ·rw[if_neg q,if_neg q,Vc,ra];rfl
section
variable {X:Cx}{pins:List (Addr×Obj)}{σ:St}{H:Hp}{s:Shared}{a:Addr}{y v:V}{u r:Value}{o:Option V}{A:Around}{E:Value->Shared->Prop}
theorem Inv.big(I:Inv X pins σ H s):sysModules<s.heap.objs.size:=by
 have h:mainGlobals<s.heap.objs.size:=(I.mod.glob.keeps I.bk).lt;exact Nat.lt_trans (by decide) h
theorem wy{Q:Value->Shared->Prop}(hu:A.units+1<cLine)(I:Inv X pins σ H s)(g:DGet H a y (some v))(ry:RelV y u)(h:∀w' s',Inv X pins σ H s'->RelV v w'->Q w' s') :
  wpAny (model X.prog X.w) A (getItem (.ref a) u) Q E s:=by
 rcases g with⟨kvs,k,e,ey,l⟩|⟨ep,kvs,k,b,e,ey,eb,l⟩
 ·subst ey;obtain⟨z,hd,vs,rel,dd⟩:=uU I.hok e;obtain⟨w',hw,rw'⟩:=RelO.some_of (v:=v) (o:=valueAt vs k) (by rw[l];exact rel.val k)
  exact wpAny_getItem_of (uT ry) dd.mapOf hw (h w' _ (I.tok _) rw')
 ·subst ey;cases (show u=Value.ref b from ry);obtain⟨z,hd,xs,rel,dd⟩:=xI I.hok e;obtain⟨w',hw,rw'⟩:=RelO.some_of (v:=v) (o:=(atKey xs k).map (·.2)) (by rw[l];exact rel.val k)
  obtain⟨p,hp,hp2⟩:=Xd.mp hw;refine wpAny_getItem_heap (tupleKind_room_in1 hu) (nu I.hok eb) dd hp ?_;rw[hp2];exact h w' _ (I.tok _) rw'
theorem AE{Q:Value->Shared->Prop}(hu:A.units+1<cLine)(I:Inv X pins σ H s)(g:DGet H a y o)(ry:RelV y u)(h:∀s',Inv X pins σ H s'->Q (.bool (!o.isSome)) s') :
  wpAny (model X.prog X.w) A (compareOp .NotIn u (.ref a)) Q E s:=by
 rcases g with⟨kvs,k,e,ey,l⟩|⟨ep,kvs,k,b,e,ey,eb,l⟩
 ·subst ey;obtain⟨z,hd,vs,rel,dd⟩:=uU I.hok e;refine wpAny_notIn_of (uT ry) hd dd.mapOf ?_;rw[← (rel.val k).isSome_eq,← l];exact h _ (I.tok _)
 ·subst ey;cases (show u=Value.ref b from ry);obtain⟨z,hd,xs,rel,dd⟩:=xI I.hok e;refine wpAny_notIn_heap (tupleKind_room_in1 hu) (nu I.hok eb) hd dd ?_;have q:=(rel.val k).isSome_eq;rw[Option.isSome_map]at q;rw[← q,← l];exact h _ (I.tok _)
theorem uV{h':Heap}{t':Nat}{ob:HO}(I:Inv X pins σ H s)(mu:Mut (H a))(hs:Heap.SameBut a s.heap h')(he:∃q,h'.get? a=some q)(new:ObjOk X.prog X.w (upd H a ob) h' a ob) :
  Inv X pins σ (upd H a ob) { s with heap:=h',toks:=t' } :=
 I.write (x:=a) (e:=a) mu (.inl rfl) (fun b q hb z=>(hs.2 b hb).trans z) he new
theorem Di{P:Program}{w:World}{H':Hp}{h':Heap}{kvs:List (Key×V)}{vs:List (Key×Value)}(z:kvs.length<=sizeLine)(hd:(a == sysModules)=false)(rel:KV kvs vs)(dd:h'.DictOf (cG P w) a vs) :
  ObjOk P w H' h' a (.dK kvs):=⟨z,hd,vs,rel,dd⟩
theorem wz{R:Hp->Prop}{Q:Unit->Shared->Prop}(hu:A.units+1<cLine)(I:Inv X pins σ H s)(g:Fn H a y v R)(ry:RelV y u)(rv:RelV v r)(h:∀s' H',Inv X pins σ H' s'->R H'->Q () s') :
  wpAny (model X.prog X.w) A (setItem (.ref a) u r) Q E s:=by
 rcases g with⟨kvs,k,e,ey,l,eH⟩|⟨ep,kvs,k,b,e,ey,eb,l,eH⟩
 ·subst ey;obtain⟨z,hd,vs,rel,dd⟩:=Fk I.hok e;have hz:vs.length<=sizeLine:=by rw[← rel.length];exact z
  have hl:(putK kvs k v).length<=sizeLine:=by have:=lU kvs k v;lia
  refine wpAny_setItem_pairs (hsz:=hz) (uT ry) dd fun h' dd' hs=>h _ _ ?_ eH;have he:∃q,h'.get? a=some q:=let ⟨q,_,_,hq,_⟩:=dd';⟨q,hq⟩;exact uV I (by rw[e];exact True.intro) hs he (Di hl hd (rel.put k rv) dd')
 ·subst ey;cases (show u=Value.ref b from ry);obtain⟨z,hd,xs,rel,ra0,dd⟩:=Fm I.hok e;have hz:xs.length<=sizeLine:=by rw[← Paired.length rel];exact z
  have hl:(putK kvs k v).length<=sizeLine:=by have:=lU kvs k v;lia
  have ra:xs.map (·.2.1)=ep.2:=ra0;refine wpAny_setItem_heap (hsz:=hz) (tupleKind_room_in1 hu) (nu I.hok eb) dd fun h' dd' hs=>?_;obtain⟨q,es,ep',hq,h2,h3,h4,_,h5⟩:=dd';refine h _ _ ?_ (eH ep');refine uV I (by rw[e];exact True.intro) hs ⟨q,hq⟩ ⟨hl,hd,_,(rel.put k eb rv).keeps fun c ys ec=>?_,Dh ra rel,q,es,hq,h2,h3,h4,h5⟩
  rw[aT (EW ec e (fun z=>nomatch z))];exact ec
end
noncomputable def Dj(i:Expr):Prop:=∀ov iv,subscripted i false ov iv=operate [ov,iv] (getItem ov iv)
theorem AF{prog:Program}{w:World}{A:Around}{E:Value->Shared->Prop}{s:Shared}{env:Env}{value slice:Expr}{pos:Pos}{T id:String}{Q:Value->Shared->Prop}
  (hl:typeLookup (.type T) "__getitem__"=pure (some (.builtin id)))(hs:Dj slice)
  (h:wpAny (model prog w) A (eval value env) (fun o s₁=>wpAny (model prog w) A (eval slice env) (fun i s₂=>s₂.TypeIs o T/\wpAny (model prog w) A (getItem o i) Q E s₂) E s₁) E s) :
  wpAny (model prog w) A (eval (.Subscript value slice pos) env) Q E s:=by
 refine Subscript_ (wpAny_mono h (fun o s₁ h₁=>wpAny_mono h₁ (fun i s₂ h₂=>?_) fun _ _ x=>x) fun _ _ x=>x);obtain⟨hT,h₂⟩:=h₂;unfold subscriptTail;refine wpAny_bind ?_;rw[getitemInPython_of_ne hT.not_modules];refine wpAny_bind (wpAny_specialOf hT hl ?_);have fin:wpAny (model prog w) A (subscripted slice false o i) (fun r s₃=>wpAny (model prog w) A (letTemporaryGo value o r >>= fun _=>pure r) Q E s₃) E s₂:=by
  rw[hs o i];exact wpAny_operating (wpAny_mono h₂ (fun r s₃ h₃=>wpAny_bind (wpAny_letTemporaryGo (wpAny_pure h₃))) fun _ _ x=>x)
 first
  | exact wpAny_pure (wpAny_bind fin)
  | exact wpAny_bind (wpAny_pure (wpAny_bind fin))
  | exact wpAny_bind fin
theorem rG{X:Cx}{pins:List (Addr×Obj)}{σ:St}{H:Hp}{s:Shared}{a:Addr}{y:V}{o:Option V}(I:Inv X pins σ H s)(g:DGet H a y o):s.TypeIs (.ref a) "dict":=by
 rcases g with⟨kvs,k,e,_,_⟩|⟨ep,kvs,k,b,e,_,_,_⟩
 ·obtain⟨_,_,vs,_,dd⟩:=uU I.hok e;exact dd.typeIs
 ·obtain⟨_,_,xs,_,dd⟩:=xI I.hok e;exact dd.typeIs
noncomputable def Fo(td ty:TE):TE:=fun σ H Q=>td σ H fun x H1=>ty σ H1 fun y H2=>∃a v,x=.ref a/\DGet H2 a y (some v)/\Q v H2
section
variable {X:Cx}{o i e value:Expr}{pos pos' tpos:Pos}{td ty tv:TE}
theorem AG(hu:X.A.units+1<cLine)(ho:PE X o td)(hi:PE X i ty)(hs:Dj i):PE X (.Subscript o i pos) (Fo td ty):=by
 intro pins s σ H Q I h;refine AF PySem.F.slot_dict_getitem.lookup hs (thn (ho pins s σ H _ I h) fun u s1 ⟨x,H1,I1,rx,q1⟩=>thn (hi pins s1 σ H1 _ I1 q1) fun iv s2 zz9=>?_);obtain⟨y,H2,I2,ry,a,v,ex,g,q2⟩:=zz9;subst ex;obtain rfl:u=Value.ref a:=rx;exact⟨rG I2 g,wy hu I2 g ry fun w' s3 I3 rw'=>⟨v,H2,I3,rw',q2⟩⟩
end
theorem xJ{P:Program}{w:World}{H:Hp}(h:Heap)(hb:sysModules<h.objs.size):ObjOk P w H (h.push { cls:=.type "dict",data:=.dict #[] }) h.objs.size (.dK []) :=
 ⟨Wh _,beq_eq_false_iff_ne.mpr (Ne.symm (Zg hb)),[],.nil,Heap.DictOf.new h⟩
theorem xK{P:Program}{w:World}{H:Hp}(h:Heap)(hb:sysModules<h.objs.size):ObjOk P w H (h.push { cls:=.type "dict",data:=.dict #[] }) h.objs.size (.dT (0,[]) []) :=
 ⟨Wh _,beq_eq_false_iff_ne.mpr (Ne.symm (Zg hb)),[],.nil,rfl,_,#[],Heap.get?_push_size _ rfl,⟨rfl,rfl,rfl⟩,rfl,rfl,List.nodup_nil⟩
noncomputable def xL:TE:=fun _ H Q=>∀p,H p=none->Q (.ref p) (upd H p (.dK []))
noncomputable def xM:TE:=fun _ H Q=>∀p,H p=none->Q (.ref p) (upd H p (.dT (0,[]) []))
section
variable {X:Cx}{pos:Pos}
theorem xO:PE X (.Dict [] [] pos) xL:=fun pins s σ H Q I h =>
 wpAny_Dict_empty ⟨.ref s.heap.objs.size,_,I.laid (a:=s.heap.objs.size) (o:=.dK []) (t':=s.toks) (fun _ _ q=>Heap.get?_push_of_some _ q) (Va _) (xJ s.heap I.big),rfl,h _ (I.hok.fresh (Va _))⟩
theorem xP:PE X (.Dict [] [] pos) xM:=fun pins s σ H Q I h =>
 wpAny_Dict_empty ⟨.ref s.heap.objs.size,_,I.laid (a:=s.heap.objs.size) (o:=.dT (0,[]) []) (t':=s.toks) (fun _ _ q=>Heap.get?_push_of_some _ q) (Va _) (xK s.heap I.big),rfl,h _ (I.hok.fresh (Va _))⟩
end
end L2
namespace HT
open PySem PyProof.Rows
theorem rcLt_int(A:Around)(s:Shared)(a:Int)(t:Tok)(c:Int)(u:Tok)(prog:Program)(w:World)(E:Value->Shared->Prop)(Q:Value->Shared->Prop)(h:Q (.bool (decide (a<c))) s) :
  wpAny (model prog w) A (richCompare .Lt (.int a t) (.int c u)) Q E s :=
 (PyProof.Rows.lt_int h:wpAny (model prog w) A (compareOp .Lt (.int a t) (.int c u)) Q E s)
section
variable {prog:Program}{w:World}{A:Around}{E:Value->Shared->Prop}{s:Shared}
theorem cat_tup{t b:Addr}{vs ws:List Value}{Q:Value->Shared->Prop}(ht:IsTup s.heap t vs.toArray)(hb:IsTup s.heap b ws.toArray)(hv:vs≠[])
  (h1:ws=[]->Q (.ref t) s)(h2:ws≠[]->Q (.ref s.heap.objs.size) { s with heap:=s.heap.push { cls:=.type "tuple",data:=.seq (vs++ws).toArray } })
  (hsz:vs.length+ws.length<=sizeLine):wpAny (model prog w) A (binaryOp .Add (.ref t) (.ref b)) Q E s:=by
 obtain⟨⟨cls,dd,data,sl⟩,ho,hc,n,hd⟩:=id ht;obtain⟨⟨cls2,dd2,data2,sl2⟩,ho2,hc2,n2,hd2⟩:=id hb;simp only at hc hd hc2 hd2;subst hc hd hc2 hd2;have e:vs.toArray++ws.toArray=(vs++ws).toArray:=by simp
 by_cases hw:ws=[]
 ·exact concat_meets ⟨_,ho,rfl⟩ ⟨_,ho2,rfl⟩ noFill_tuple_add seq_tuple_add PySem.F.slot_tuple_add PySem.F.entry_tuple_add (PySem.F.args_tuple_add_2 _ _)
   (tuple_addW1 t b vs.toArray ws.toArray n n2 dd dd2 sl sl2 (by simpa using hv) (by simp[hw])) ⟨ho,ho2,h1 hw⟩
 ·refine concat_meets ⟨_,ho,rfl⟩ ⟨_,ho2,rfl⟩ noFill_tuple_add seq_tuple_add PySem.F.slot_tuple_add PySem.F.entry_tuple_add (PySem.F.args_tuple_add_2 _ _)
   (tuple_addW2 t b vs.toArray ws.toArray n n2 dd dd2 sl sl2 (by simpa using hv) (by simpa using hw) (by rw[Vb,Vb];exact hsz)) ⟨ho,ho2,?_⟩
  rw[e];exact h2 hw
noncomputable def sIx(n d:Nat):Option Int->Nat
 | none=>d
 | some v=>if v<0 then(v+(n:Int)).toNat else min v.toNat n
theorem sIx_none(n d:Nat):sIx n d none=d:=rfl
theorem sIx_nat(n d k:Nat):sIx n d (some (k:Int))=min k n:=by
 show(if (k:Int)<0 then((k:Int)+(n:Int)).toNat else min (k:Int).toNat n)=min k n;rw[if_neg (by lia),Int.toNat_natCast]
theorem Dk(n d:Nat)(hd:d<=n)(o:Option Int):sIx n d o<=n:=by
 cases o with
 | none=>exact hd
 | some v =>
  show(if v<0 then(v+(n:Int)).toNat else min v.toNat n)<=n;by_cases hv:v<0
  ·rw[if_pos hv];lia
  ·rw[if_neg hv];exact Nat.min_le_right _ _
theorem clip_nat(v:Int)(n:Nat)(hv:¬ v<0):min v (n:Int)=((min v.toNat n:Nat):Int):=by
 obtain⟨k,rfl⟩:=Int.eq_ofNat_of_zero_le (Int.not_lt.mp hv);rw[Int.toNat_natCast];rcases Nat.le_total k n with h|h
 ·rw[Nat.min_eq_left h];exact Int.min_eq_left (Int.ofNat_le.mpr h)
 ·rw[Nat.min_eq_right h];exact Int.min_eq_right (Int.ofNat_le.mpr h)
theorem uW(v:Int)(n d:Nat):(if v<0 then max (v+(n:Int)) 0 else min v (n:Int))=((sIx n d (some v):Nat):Int):=by
 show(if v<0 then max (v+(n:Int)) 0 else min v (n:Int))=(((if v<0 then(v+(n:Int)).toNat else min v.toNat n):Nat):Int);by_cases hv:v<0
 ·rw[if_pos hv,if_pos hv];exact(Int.ofNat_toNat _).symm
 ·rw[if_neg hv,if_neg hv];exact clip_nat v n hv
theorem tS(lo hi:Option Int)(n:Nat):Builtin.Slice.sliceAdjust lo hi 1 (n:Int)=(((sIx n 0 lo:Nat):Int),((sIx n n hi:Nat):Int)):=by
 have h1:¬ ((1:Int)<0):=by lia
 unfold Builtin.Slice.sliceAdjust;simp only[h1,if_false];refine Prod.ext ?_ ?_
 ·cases lo with
  | none=>rfl
  | some v=>exact uW v n 0
 ·cases hi with
  | none=>rfl
  | some v=>exact uW v n n
theorem tT(i j:Nat):Builtin.Slice.slicePlaces (i:Int) (j:Int) 1=j-i:=by
 unfold Builtin.Slice.slicePlaces;have h1:(1:Int) > 0:=by lia
 simp only[h1,if_true,Int.ediv_one];split<;>lia
theorem nA{v:Value}{o:Option Int}{Q:Option Int->Shared->Prop}(p:IsPart v o)(h:Q o s):wpAny (model prog w) A (Builtin.Slice.slicePartIndex v) Q E s:=by
 cases p with
 | none=>exact slicePart_none h
 | int i t=>exact slicePart_int h
theorem gp{sl:Addr}{vl vu:Value}{lo hi:Option Int}{n:Nat}{Q:Int×Int×Nat->Shared->Prop}(hs:s.heap.IsSliceOf sl vl vu .none)(pl:IsPart vl lo)(pu:IsPart vu hi)
  (h:Q (((sIx n 0 lo:Nat):Int),1,sIx n n hi-sIx n 0 lo) s):wpAny (model prog w) A (Builtin.Slice.sliceApplied (.ref sl) (pure (n:Int))) Q E s:=by
 obtain⟨os,hos,hcs,hds⟩:=id hs;unfold Builtin.Slice.sliceApplied Builtin.Slice.sliceFields;refine wpAny_bind (wpAny_bind (wpAny_field hos hds (x:=vl) rfl (wpAny_bind (wpAny_field hos hds (x:=vu) rfl (wpAny_bind (wpAny_field hos hds (x:=.none) rfl (wpAny_pure ?_)))))));refine wpAny_bind (slicePart_none ?_);show wpAny _ _ (if ((1:Int) == 0)=true then _ else _) _ _ s;rw[if_neg (by decide)]
 refine wpAny_bind (nA pl (wpAny_bind (nA pu (wpAny_bind (wpAny_pure ?_)))));show wpAny _ _ (match Builtin.Slice.sliceAdjust lo hi 1 (n:Int) with|(lo,hi)=>pure (lo,(1:Int),Builtin.Slice.slicePlaces lo hi 1)) _ _ s
 rw[tS lo hi n];show wpAny _ _ (pure (((sIx n 0 lo:Nat):Int),(1:Int),Builtin.Slice.slicePlaces ((sIx n 0 lo:Nat):Int) ((sIx n n hi:Nat):Int) 1)) _ _ s;rw[tT];exact wpAny_pure h
theorem xQ(xs:Array Value)(i k:Nat):((List.range k).filterMap fun(m:Nat)=>xs[((i:Int)+(m:Int)*1).toNat]?).toArray=((xs.toList.drop i).take k).toArray:=by
 have e:(fun(m:Nat)=>xs[((i:Int)+(m:Int)*1).toNat]?)=fun m=>xs[i+m]?:=by
  funext m
  have:((i:Int)+(m:Int)*1).toNat=i+m:=by lia
  rw[this]
 rw[e];have:=pick_run xs i k;rw[List.filterMap_map]at this;have e2:((fun x=>xs[x]?) ∘ fun x=>i+x)=fun m=>xs[i+m]?:=rfl;rw[e2]at this;rw[this]
theorem getItem_tuple_cut{t sl:Addr}{items:Array Value}{vl vu:Value}{lo hi:Option Int}{Q:Value->Shared->Prop}(ht:IsTup s.heap t items)(hs:s.heap.IsSliceOf sl vl vu .none)(pl:IsPart vl lo)(pu:IsPart vu hi)
  (hw:¬ (sIx items.size 0 lo=0/\sIx items.size items.size hi=items.size))
  (h:Q (.ref s.heap.objs.size) { s with heap:=s.heap.push { cls:=.type "tuple",data:=.seq ((items.toList.drop (sIx items.size 0 lo)).take (sIx items.size items.size hi-sIx items.size 0 lo)).toArray } })
  (hsz:items.size<=sizeLine):wpAny (model prog w) A (getItem (.ref t) (.ref sl)) Q E s:=by
 have htake:sizeOk (.seq ((items.toList.drop (sIx items.size 0 lo)).take (sIx items.size items.size hi-sIx items.size 0 lo)).toArray):=by
  show((items.toList.drop (sIx items.size 0 lo)).take (sIx items.size items.size hi-sIx items.size 0 lo)).toArray.size<=sizeLine;rw[Vb,Qk,Wj,Yc];exact Xe (Nat.min_le_right _ _) (Xe (Nat.sub_le _ _) hsz)
 have hj:sIx items.size items.size hi<=items.size:=Dk _ _ (Va _) hi;obtain⟨os,hos,hcs,hds⟩:=id hs;have hTs:s.TypeIs (.ref sl) "slice":=⟨os,hos,hcs⟩;unfold getItem
 try with_reducible refine wpAny_holding ?_
 first|refine wpAny_bind (wpAny_pure ?_)|skip
 refine wpAny_bind (wpAny_sequenceKey ht.typeIs (by decide) ?_)
 refine wpAny_bind (wpAny_callSpecial?_slot (name:=Str.ofString "__getitem__") ht.typeIs PyProof.Rows.slot_tuple_getitem
  (wpAny_call_entry PyProof.Rows.slot_tuple_getitem ht.typeIs entry_tuple_getitem ?_ (args_tuple_getitem _ _)))
 show wpAny _ _ (Builtin.Tuple.tupleItemsOf (.ref t) >>= _) _ _ s;refine wpAny_bind (tupleItemsOf_ ht ?_);refine wpAny_bind (wpAny_typeOf hTs ?_);rw[if_pos (by decide)]
 refine wpAny_bind (gp hs pl pu ?_);have hno:¬ ((((sIx items.size 0 lo:Nat):Int) == 0&&(1:Int) == 1&&(sIx items.size items.size hi-sIx items.size 0 lo) == items.size)=true):=by
  intro q;rw[Yi,Yi]at q;have q1:((sIx items.size 0 lo:Nat):Int)=0:=eq_of_beq q.1.1;have q2:sIx items.size items.size hi-sIx items.size 0 lo=items.size:=eq_of_beq q.2;exact hw ⟨by lia,by lia⟩
 show wpAny _ _ (if (((sIx items.size 0 lo:Nat):Int) == 0&&(1:Int) == 1&&(sIx items.size items.size hi-sIx items.size 0 lo) == items.size)=true then _ else _) _ _ s;rw[if_neg hno,xQ]
 first
  | exact wpAny_bind (m:=Builtin.Tuple.tupleExact _) (wpAny_newObj_type (wpAny_pure ⟨_,rfl,wpAny_pure h⟩) htake)
  | exact wpAny_bind (m:=Builtin.Tuple.tupleExact _) (wpAny_newObj_type (wpAny_bind (wpAny_pure (wpAny_pure ⟨_,rfl,wpAny_pure h⟩))) htake)
  | exact wpAny_bind (wpAny_bind (m:=Builtin.Tuple.tupleExact _) (wpAny_newObj_type (wpAny_pure (wpAny_pure ⟨_,rfl,wpAny_pure h⟩)) htake))
  | exact wpAny_bind (wpAny_bind (m:=Builtin.Tuple.tupleExact _) (wpAny_newObj_type (wpAny_pure ⟨_,rfl,wpAny_pure h⟩) htake))
end
end HT
namespace L2
open PySem PySem.Spec PyProof.Rows
noncomputable abbrev TO:=St->Hp->(Option Int->Hp->Prop)->Prop
noncomputable def PO(X:Cx)(e:Option Expr)(t:TO):Prop :=
 ∀(pins:List (Addr×Obj))(s:Shared)(σ:St)(H:Hp)(Q:Option Int->Hp->Prop),Inv X pins σ H s->t σ H Q ->
  wpAny (model X.prog X.w) X.A (evalPart e X.env) (fun u s'=>∃o H',Inv X pins σ H' s'/\IsPart u o/\Q o H') X.xe s
noncomputable def uX:TO:=fun _ H Q=>Q none H
noncomputable def Cg(t:TE):TO:=fun σ H Q=>t σ H fun x H1=>∃i,x=.int i/\Q (some i) H1
section
variable {X:Cx}{e:Expr}{te:TE}{lo hi:Option Expr}{tl th:TO}{pos p2:Pos}
theorem jd:PO X none uX:=by
 intro pins s σ H Q I h;rw[evalPart_none];exact wpAny_pure ⟨none,H,I,.none,h⟩
theorem je(h:PE X e te):PO X (some e) (Cg te):=by
 intro pins s σ H Q I hw;rw[evalPart_some];refine thn (h pins s σ H _ I hw) fun u s1 zz9=>?_;obtain⟨x,H1,I1,r1,q1⟩:=zz9;obtain⟨i,rfl,q⟩:=q1;obtain⟨t,rfl⟩:=r1;exact⟨some i,H1,I1,.int i t,q⟩
noncomputable def SlR(X:Cx)(r:V->Option Int->Option Int->Hp->VK->Prop):Prop :=
 ∀(pins:List (Addr×Obj))(s:Shared)(σ:St)(H:Hp)(x:V)(v vl vu:Value)(lo hi:Option Int)(sl:Addr)(Q:VK),Inv X pins σ H s->RelV x v->s.heap.IsSliceOf sl vl vu .none->IsPart vl lo->IsPart vu hi->r x lo hi H Q ->
  ∃T id,typeLookup (.type T) "__getitem__"=pure (some (.builtin id))/\s.TypeIs v T/\wpAny (model X.prog X.w) X.A (getItem v (.ref sl)) (EP X pins σ Q) X.xe s
theorem SlR.or{r r':V->Option Int->Option Int->Hp->VK->Prop}(h:SlR X r)(h':SlR X r'):SlR X (fun x lo hi H Q=>r x lo hi H Q∨r' x lo hi H Q):=by
 intro pins s σ H x v vl vu lo hi sl Q I rx hs pl pu q;rcases q with q|q
 ·exact h pins s σ H x v vl vu lo hi sl Q I rx hs pl pu q
 ·exact h' pins s σ H x v vl vu lo hi sl Q I rx hs pl pu q
noncomputable def tSl(r:V->Option Int->Option Int->Hp->VK->Prop)(te:TE)(tl th:TO):TE:=fun σ H Q=>te σ H fun x H1=>tl σ H1 fun l H2=>th σ H2 fun u H3=>r x l u H3 Q
theorem gq{r:V->Option Int->Option Int->Hp->VK->Prop}(hr:SlR X r)(he:PE X e te)(hl:PO X lo tl)(hu:PO X hi th):PE X (.Subscript e (.Slice lo hi none p2) pos) (tSl r te tl th):=by
 intro pins s σ H Q I h;refine Subscript_ (thn (he pins s σ H _ I h) fun v s1 zz9=>?_);obtain⟨x,H1,I1,r1,q1⟩:=zz9;refine wpAny_Slice (thn (hl pins s1 σ H1 _ I1 q1) fun vl s2 ⟨l,H2,I2,pl,q2⟩=>thn (hu pins s2 σ H2 _ I2 q2) fun vu s3 zz9=>?_);obtain⟨u,H3,I3,pu,q3⟩:=zz9;rw[evalPart_none];refine wpAny_pure ?_;have I4:Inv X pins σ H3 { s3 with heap:=s3.heap.push { cls:=.type "slice",data:=.fields #[vl,vu,.none] } }:=I3.kept (t':=s3.toks) fun b ob q=>Heap.get?_push_of_some _ q;obtain⟨T,id,hT,ht,hg⟩:=hr pins { s3 with heap:=s3.heap.push { cls:=.type "slice",data:=.fields #[vl,vu,.none] } } σ H3 x v vl vu l u s3.heap.objs.size Q I4 r1 (Heap.IsSliceOf.new ..) pl pu q3;show wpAny (model X.prog X.w) X.A (subscriptTail e (.Slice lo hi none p2) v (.ref s3.heap.objs.size)) (EP X pins σ Q) X.xe { s3 with heap:=s3.heap.push { cls:=.type "slice",data:=.fields #[vl,vu,.none] } };exact tail_any (ops:=[.ref s3.heap.objs.size,v]) ht hT hg (by with_unfolding_all rfl)
noncomputable def rH(xs:List V)(lo hi:Option Int):List V:=(xs.drop (HT.sIx xs.length 0 lo)).take (HT.sIx xs.length xs.length hi-HT.sIx xs.length 0 lo)
theorem lV(xs:List V)(lo hi:Option Int):(rH xs lo hi).length<=xs.length:=by
 unfold rH;rw[Qk,Wj];lia
noncomputable def Dl(K:PySem.W.Frag):V->Option Int->Option Int->Hp->VK->Prop:=fun x lo hi H Q=>∃a xs,x=.ref a/\SqT K H a xs /\
 ¬ (HT.sIx xs.length 0 lo=0/\HT.sIx xs.length xs.length hi=xs.length)/\∀p,H p=none->Q (.ref p) (upd H p (.tup (rH xs lo hi)))
theorem Dm:SlR X (Dl X.K):=by
 intro pins s σ H x v vl vu lo hi sl Q I rx hs pl pu h;obtain⟨a,xs,rfl,hx,hw,q⟩:=h;cases rx;obtain⟨its,r,ht,hz⟩:=I.tuple hx;have hlen:its.toArray.size=xs.length:=by rw[Vb];exact r.length.symm
 refine⟨"tuple",_,PyProof.Rows.slot_tuple_getitem.lookup,ht.typeIs,?_⟩;refine HT.getItem_tuple_cut ht hs pl pu (by rw[hlen];exact hw) ?_ (by rw[hlen];exact hz)
 rw[hlen];refine⟨.ref s.heap.objs.size,_,I.laid (t':=s.toks) (o:=.tup (rH xs lo hi)) (fun b ob q=>Heap.get?_push_of_some _ q) (Va _) ?_,rfl,q _ (I.hok.fresh (Va _))⟩;exact⟨Xe (lV xs lo hi) hz,_,(r.drop (HT.sIx xs.length 0 lo)).take (HT.sIx xs.length xs.length hi-HT.sIx xs.length 0 lo),IsTup.new _ _⟩
noncomputable def xR(K:PySem.W.Frag):R2:=fun x y H Q=>∃a b xs ys,x=.ref a/\y=.ref b/\SqT K H a xs/\SqT K H b ys/\xs≠[]/\xs.length+ys.length<=sizeLine /\
 (ys=[]->Q (.ref a) H)/\(ys≠[]->∀p,H p=none->Q (.ref p) (upd H p (.tup (xs++ys))))
theorem Vals.nil_iff{xs:List V}{us:List Value}(r:Vals xs us):us=[]↔xs=[]:=by
 cases r with
 | nil=>simp
 | cons _ _=>simp
theorem AH:OpR X (binaryOp .Add) (xR X.K):=by
 intro pins s σ H x y v u Q I rx ry h;obtain⟨a,b,xs,ys,rfl,rfl,ha,hb,hx,hz,q1,q2⟩:=h;cases rx;cases ry;obtain⟨its,r1,p1,_⟩:=I.tuple ha;obtain⟨its2,r2,p2,_⟩:=I.tuple hb;refine HT.cat_tup p1 p2 (fun z=>hx (r1.nil_iff.mp z)) (fun z=>⟨.ref a,H,I,rfl,q1 (r2.nil_iff.mp z)⟩) (fun z=>?_) (by rw[← r1.length,← r2.length];exact hz)
 refine⟨.ref s.heap.objs.size,_,I.laid (t':=s.toks) (o:=.tup (xs++ys)) (fun b ob q=>Heap.get?_push_of_some _ q) (Va _) ?_,rfl,q2 (fun w=>z (r2.nil_iff.mpr w)) _ (I.hok.fresh (Va _))⟩;exact⟨by rw[Xa];exact hz,_,r1.append r2,IsTup.new _ _⟩
end
end L2
namespace L2
open PySem PySem.Spec PyProof.Rows
noncomputable def ixN(n:Nat)(i:Int):Option Nat:=if 0<=i then(if i<n then some i.toNat else none) else if -(n:Int)<=i then some (i+n).toNat else none
noncomputable def atI{α:Type}(xs:List α)(i:Int):Option α:=(ixN xs.length i).bind fun j=>xs[j]?
theorem uY{n:Nat}{i:Int}{j:Nat}(h:ixN n i=some j):seqIndex? i n=some j/\j<n/\-(n:Int)<=i/\i<n:=by
 unfold ixN at h;by_cases h0:0<=i
 ·rw[if_pos h0]at h;by_cases h1:i<n
  ·rw[if_pos h1]at h;have e:i.toNat=j:=Option.some.inj h;exact⟨by rw[seqIndex_of h0 h1,e],by lia,by lia,h1⟩
  ·rw[if_neg h1]at h;cases h
 ·rw[if_neg h0]at h;by_cases h1:-(n:Int)<=i
  ·rw[if_pos h1]at h;have e:(i+n).toNat=j:=Option.some.inj h;exact⟨by rw[seqIndex_neg (by lia) h1,e],by lia,h1,by lia⟩
  ·rw[if_neg h1]at h;cases h
theorem qh{α:Type}{xs:List α}{i:Int}{v:α}(h:atI xs i=some v):∃j,seqIndex? i xs.length=some j/\xs[j]?=some v/\j<xs.length/\-(xs.length:Int)<=i/\i<xs.length:=by
 unfold atI at h;cases e:ixN xs.length i with
 | none=>rw[e]at h;cases h
 | some j =>
  rw[e]at h;obtain⟨h1,h2,h3,h4⟩:=uY e;exact⟨j,h1,h,h2,h3,h4⟩
theorem jf{α:Type}{xs:List α}{j:Nat}{v:α}(h:xs[j]?=some v):atI xs (j:Int)=some v:=by
 have hj:j<xs.length:=(Yb.mp h).1;have e:ixN xs.length (j:Int)=some j:=by
  unfold ixN;rw[if_pos (by lia),if_pos (by lia)];simp
 unfold atI;rw[e];exact h
noncomputable def AI(b:Expr):Prop:=∀o i,subscripted b false o i=operate [o,i] (getItem o i)
noncomputable def IxR(X:Cx)(r:R2):Prop :=
 ∀(value slice:Expr)(pins:List (Addr×Obj))(s:Shared)(σ:St)(H:Hp)(x y:V)(v u:Value)(Q:VK),Inv X pins σ H s->RelV x v->RelV y u->r x y H Q ->
  subscripted slice false v u=operate [v,u] (getItem v u)->wpAny (model X.prog X.w) X.A (subscriptTail value slice v u) (EP X pins σ Q) X.xe s
noncomputable def MtR(X:Cx)(id:String)(r:V->List V->Hp->VK->Prop):Prop :=
 ∀(pins:List (Addr×Obj))(s:Shared)(σ:St)(H:Hp)(x:V)(xs:List V)(v:Value)(us:List Value)(Q:VK),Inv X pins σ H s->RelV x v->Vals xs us->r x xs H Q ->
  wpAny (model X.prog X.w) X.A (call (.builtin id) (v::us)) (EP X pins σ Q) X.xe s
section
variable {X:Cx}{a b:Expr}{ta tb:TE}{pos:Pos}
theorem IxR.or{r r':R2}(h:IxR X r)(h':IxR X r'):IxR X (fun x y H Q=>r x y H Q∨r' x y H Q):=by
 intro value slice pins s σ H x y v u Q I rx ry q hs;rcases q with q|q
 ·exact h value slice pins s σ H x y v u Q I rx ry q hs
 ·exact h' value slice pins s σ H x y v u Q I rx ry q hs
theorem aP{r:R2}(hr:IxR X r)(ha:PE X a ta)(hb:PE X b tb)(hs:AI b):PE X (.Subscript a b pos) (tOp r ta tb):=by
 intro pins s σ H Q I h;exact Subscript_ (Db ha hb I h fun v u s2 x y H2 I2 rx ry q=>hr a b pins s2 σ H2 x y v u Q I2 rx ry q (hs _ _))
noncomputable def Do(K:PySem.W.Frag):R2:=fun x y H Q=>∃p xs i v,x=.ref p/\y=.int i/\SqL K H p xs/\atI xs i=some v/\Q v H
noncomputable def Dq(K:PySem.W.Frag):R2:=fun x y H Q=>∃p xs i v,x=.ref p/\y=.int i/\SqT K H p xs/\atI xs i=some v/\Q v H
noncomputable def Dr:R2:=fun x y H Q=>∃z i c,x=.str z/\y=.int i/\z.length<=sizeLine/\atI z.cps.toList i=some c/\Q (.str ⟨#[c]⟩) H
theorem ix_list:IxR X (Do X.K):=by
 intro value slice pins s σ H x y v u Q I rx ry h hs;obtain⟨p,xs,i,z,rfl,rfl,hq,he,q⟩:=h;cases rx;obtain⟨t,rfl⟩:=ry;obtain⟨its,r,pl,hz⟩:=I.list hq;obtain⟨j,h1,h2,h3,h4,h5⟩:=qh he;obtain⟨w,ew,rw'⟩:=r.get h2;have hl:=r.length;have hn:=lD;have fin:EP X pins σ Q w s:=⟨z,H,I,rw',q⟩;by_cases h0:0<=i
 ·have hj:i.toNat=j:=by
   rw[seqIndex_of h0 h5]at h1;exact Option.some.inj h1
  exact item_listR pl.isList h0 (by lia) (by rw[hj];simpa using ew) fin hs
 ·have hj:(i+(its.toArray.size:Int)).toNat=j:=by
   rw[seqIndex_neg (by lia) h4]at h1
   rw[Vb,← hl];exact Option.some.inj h1
  exact subscriptTail_builtinR (x:=w) pl.isList.typeIs slot_list_getitem.lookup
   (wpAny_getItem_list_neg (Q:=fun r s'=>r=w/\EP X pins σ Q r s') pl.isList (by lia) (by rw[Vb]<;>lia) (by lia) (by rw[hj];simpa using ew) ⟨rfl,fin⟩) hs
theorem ix_tup:IxR X (Dq X.K):=by
 intro value slice pins s σ H x y v u Q I rx ry h hs;obtain⟨p,xs,i,z,rfl,rfl,hq,he,q⟩:=h;cases rx;obtain⟨t,rfl⟩:=ry;obtain⟨its,r,pl,hz⟩:=I.tuple hq;obtain⟨j,h1,h2,h3,h4,h5⟩:=qh he;obtain⟨w,ew,rw'⟩:=r.get h2;have hl:=r.length;have hn:=lD;have fin:EP X pins σ Q w s:=⟨z,H,I,rw',q⟩;exact subscriptTail_builtinR (x:=w) pl.typeIs slot_tuple_getitem.lookup
  (getItem_tuple (j:=j) (Q:=fun r s'=>r=w/\EP X pins σ Q r s') pl (by lia) (by lia) (by rw[Vb,← hl];exact h1) (by simpa using ew) ⟨rfl,fin⟩) hs
theorem ix_str:IxR X Dr:=by
 intro value slice pins s σ H x y v u Q I rx ry h hs;obtain⟨z,i,c,rfl,rfl,hz,he,q⟩:=h;obtain⟨t,rfl⟩:=rx;obtain⟨t',rfl⟩:=ry;obtain⟨j,h1,h2,h3,h4,h5⟩:=qh he;have hl:z.cps.toList.length=z.length:=by simp[Str.length]
 rw[hl]at h1 h4 h5;have hn:=lD
 exact tail_any (typeIs_str s z t) slot_str_getitem.lookup (getItem_str (c:=c) (by
  have e1:decide (i < -(2 ^ 63:Int))=false:=decide_eq_false (by lia)
  have e2:decide (i ≥ 2 ^ 63)=false:=decide_eq_false (by lia)
  rw[e1,e2,Bool.or_false]) (by rw[h1];simpa using h2) ⟨.str ⟨#[c]⟩,H,I.tok _,⟨_,rfl⟩,q⟩) hs
noncomputable def rIx(K:PySem.W.Frag):R2:=fun x y H Q=>Do K x y H Q∨Dq K x y H Q∨Dr x y H Q
theorem Ds:IxR X (rIx X.K):=ix_list.or (ix_tup.or ix_str)
theorem tU(its:List Value)(n j:Nat)(u:Value):Obj.mapSeq (·.setIfInBounds j u) { cls:=.type "list",data:=.seq its.toArray n }={ cls:=.type "list",data:=.seq (its.set j u).toArray n }:=by
 simp[Obj.mapSeq]
theorem Inv.lst{pins:List (Addr×Obj)}{σ:St}{H:Hp}{s:Shared}{p:Addr}{xs:List V}(I:Inv X pins σ H s)(h:H p=some (.lst xs)) :
  ∃(its:List Value)(n:Nat),Vals xs its/\s.heap.get? p=some { cls:=.type "list",data:=.seq its.toArray n }/\xs.length<=sizeLine:=by
 obtain⟨z,its,n,r,e⟩:=I.hok p _ h;exact⟨its,n,r,e,z⟩
theorem Inv.lstUpd{pins:List (Addr×Obj)}{σ:St}{H:Hp}{s:Shared}{p:Addr}{xs ys:List V}{its its':List Value}{n n':Nat}{f:Obj->Obj}(I:Inv X pins σ H s)(h:H p=some (.lst xs))
  (ho:s.heap.get? p=some { cls:=.type "list",data:=.seq its.toArray n })(hf:f { cls:=.type "list",data:=.seq its.toArray n }={ cls:=.type "list",data:=.seq its'.toArray n' })(r:Vals ys its')(hz:ys.length<=sizeLine)(t:Nat) :
  Inv X pins σ (upd H p (.lst ys)) { s with heap:=s.heap.update p f,toks:=t }:=by
 have e:(s.heap.update p f).get? p=some { cls:=.type "list",data:=.seq its'.toArray n' }:=by
  rw[Heap.get?_update_self f ho (by rw[hf]<;>rfl),hf]
 refine I.write (x:=p) (e:=p) (by rw[h];trivial) (.inl rfl) (fun b u hb q=>(Heap.get?_update_other _ _ (Ne.symm hb)).trans q) ⟨_,e⟩ ?_
 exact⟨hz,its',n',r,e⟩
noncomputable def Ch:V->V->V->Hp->(Hp->Prop)->Prop:=fun o i v H Q=>∃p xs k j,o=.ref p/\i=.int k/\H p=some (.lst xs)/\ixN xs.length k=some j/\Q (upd H p (.lst (xs.set j v)))
theorem set_list:C5 X Ch:=by
 intro pins s σ H o i v ov iv u Q I ro ri rv h;obtain⟨p,xs,k,j,rfl,rfl,hp,hj,q⟩:=h;cases ro;obtain⟨t,rfl⟩:=ri;obtain⟨its,n,r,ho,hz⟩:=I.lst hp;obtain⟨h1,h2,h3,h4⟩:=uY hj;have hl:=r.length;have hn:=lD;have I':Inv X pins σ (upd H p (.lst (xs.set j v))) { s with heap:=s.heap.update p (Obj.mapSeq (·.setIfInBounds j u)) } :=
  I.lstUpd hp ho (tU its n j u) (r.set rv j) (by rw[List.length_set];exact hz) s.toks
 by_cases h0:0<=k
 ·have hk:k.toNat=j:=by
   rw[seqIndex_of h0 h4]at h1;exact Option.some.inj h1
  exact PySem.W.ki_setAt ho h0 (by lia) (by rw[Vb,← hl];exact h4) (by rw[hk];exact⟨_,I',q⟩)
 ·have hk:(k+(its.toArray.size:Int)).toNat=j:=by
   rw[seqIndex_neg (by lia) h3]at h1
   rw[Vb,← hl];exact Option.some.inj h1
  exact PySem.W.ki_setBack ho (by lia) (by rw[Vb,← hl];exact h3) (by lia) (by rw[hk];exact⟨_,I',q⟩)
theorem xS(i:Int)(n:Nat):max 0 (min (if i<0 then i+(n:Int) else i) (n:Int))=(((if i<0 then(i+(n:Int)).toNat else min i.toNat n):Nat):Int):=by
 by_cases h:i<0
 ·rw[if_pos h,if_pos h,Int.min_eq_left (by lia),Int.max_comm];exact(Int.ofNat_toNat _).symm
 ·rw[if_neg h,if_neg h,HT.clip_nat i n h];exact Int.max_eq_right (Int.natCast_nonneg _)
theorem qi(lo hi:Option Int)(n:Nat):(sliceBounds lo hi none n).1=((HT.sIx n 0 lo:Nat):Int)/\(sliceBounds lo hi none n).2.1=((HT.sIx n n hi:Nat):Int)/\(sliceBounds lo hi none n).2.2=1:=by
 refine⟨?_,?_,rfl⟩
 ·cases lo with
  | none=>simp[sliceBounds,HT.sIx]
  | some i=>exact xS i n
 ·cases hi with
  | none=>simp[sliceBounds,HT.sIx]
  | some i=>exact xS i n
theorem oP(its:List Value)(lo hi:Option Int):slicePick its.toArray lo hi none=((its.drop (HT.sIx its.length 0 lo)).take (HT.sIx its.length its.length hi-HT.sIx its.length 0 lo)).toArray:=by
 obtain⟨h1,h2,h3⟩:=qi lo hi its.toArray.size;unfold slicePick;rw[h1,h2,h3];simp only[sliceRange_one,pick_run,Vb]<;>rfl
noncomputable def Dt(K:PySem.W.Frag):V->Option Int->Option Int->Hp->VK->Prop:=fun x lo hi H Q=>∃a xs,x=.ref a/\SqL K H a xs/\∀p,H p=none->Q (.ref p) (upd H p (.lst (rH xs lo hi)))
theorem AJ:SlR X (Dt X.K):=by
 intro pins s σ H x v vl vu lo hi sl Q I rx hs pl pu h;obtain⟨a,xs,rfl,hx,q⟩:=h;cases rx;obtain⟨its,r,ht,hz⟩:=I.list hx;have hlen:=r.length;refine⟨"list",_,slot_list_getitem.lookup,ht.isList.typeIs,?_⟩;refine wpAny_getItem_list_slice ht.isList hs pl pu .none (by simp) ?_ (by rw[Vb]<;>lia)
 rw[oP,← hlen];refine⟨.ref s.heap.objs.size,_,I.laid (t':=s.toks) (o:=.lst (rH xs lo hi)) (fun b ob q=>Heap.get?_push_of_some _ q) (Va _) ?_,rfl,q _ (I.hok.fresh (Va _))⟩;exact⟨Xe (lV xs lo hi) hz,_,0,(r.drop (HT.sIx xs.length 0 lo)).take (HT.sIx xs.length xs.length hi-HT.sIx xs.length 0 lo),Heap.get?_push_size _ rfl⟩
noncomputable def jA:V->Bool
 | .non=>true
 | .bl _=>true
 | .int _=>true
 | .str _=>true
 | _=>false
noncomputable def eqV:V->V->Bool
 | .non,.non=>true
 | .bl a,.bl b=>a == b
 | .bl a,.int b=>(if a then 1 else 0) == b
 | .int a,.bl b=>a == (if b then 1 else 0)
 | .int a,.int b=>a == b
 | .str a,.str b=>a == b
 | _,_=>false
theorem Du{A:Around}{s:Shared}{y x:V}{u v:Value}(ry:RelV y u)(rx:RelV x v)(fy:jA y=true)(fx:jA x=true):SeqAt.EqAt A s u v (eqV y x):=by
 cases y with
 | non =>
  cases ry;cases x with
  | non=>cases rx;exact SeqAt.EqAt.same _
  | bl b=>cases rx;exact SeqAt.EqAt.none_bool b
  | int b=>obtain⟨t,rfl⟩:=rx;exact SeqAt.EqAt.none_int b t
  | str b=>obtain⟨t,rfl⟩:=rx;exact SeqAt.EqAt.none_str b t
  | _=>exact absurd (show false=true from fx) Yd
 | bl a =>
  cases ry;cases x with
  | non=>cases rx;exact SeqAt.EqAt.bool_none a
  | bl b=>cases rx;exact SeqAt.EqAt.bool_bool a b
  | int b=>obtain⟨t,rfl⟩:=rx;exact SeqAt.EqAt.bool_int a b t
  | str b=>obtain⟨t,rfl⟩:=rx;exact SeqAt.EqAt.bool_str a b t
  | _=>exact absurd (show false=true from fx) Yd
 | int a =>
  obtain⟨t',rfl⟩:=ry;cases x with
  | non=>cases rx;exact SeqAt.EqAt.int_none a t'
  | bl b=>cases rx;exact SeqAt.EqAt.int_bool a t' b
  | int b=>obtain⟨t,rfl⟩:=rx;exact SeqAt.EqAt.int_int a t' b t
  | str b=>obtain⟨t,rfl⟩:=rx;exact SeqAt.EqAt.int_str a t' b t
  | _=>exact absurd (show false=true from fx) Yd
 | str a =>
  obtain⟨t',rfl⟩:=ry;cases x with
  | non=>cases rx;exact SeqAt.EqAt.str_none a t'
  | bl b=>cases rx;exact SeqAt.EqAt.str_bool a t' b
  | int b=>obtain⟨t,rfl⟩:=rx;exact SeqAt.EqAt.str_int a t' b t
  | str b=>obtain⟨t,rfl⟩:=rx;exact SeqAt.EqAt.str_str a t' b t
  | _=>exact absurd (show false=true from fx) Yd
 | _=>exact absurd (show false=true from fy) Yd
noncomputable def eqU(x:V)(u:Value):Bool:=match u with
 | .none=>eqV .non x
 | .bool b=>eqV (.bl b) x
 | .int i _=>eqV (.int i) x
 | .str z _=>eqV (.str z) x
 | _=>false
theorem xT{x y:V}{u:Value}(r:RelV y u)(f:jA y=true):eqU x u=eqV y x:=by
 cases y with
 | non=>cases r;rfl
 | bl b=>cases r;rfl
 | int i=>obtain⟨t,rfl⟩:=r;rfl
 | str z=>obtain⟨t,rfl⟩:=r;rfl
 | _=>exact absurd (show false=true from f) Yd
theorem kF{x:V}:∀{xs:List V}{us:List Value},Vals xs us->xs.all jA=true->us.any (eqU x)=xs.any fun y=>eqV y x
 | _,_,.nil,_=>rfl
 | y::xs,u::us,.cons r t,f=>by
  rw[List.all_cons,Yi]at f;rw[List.any_cons,List.any_cons,xT r f.1,kF t f.2]
theorem iB{A:Around}{s:Shared}{x:V}{v:Value}(rx:RelV x v)(fx:jA x=true):∀{xs:List V}{us:List Value},Vals xs us->xs.all jA=true->∀u∈us,SeqAt.EqAt A s u v (eqU x u)
 | _,_,.nil,_=>fun u hu=>by cases hu
 | y::xs,u::us,.cons r t,f=>fun u' hu=>by
  rw[List.all_cons,Yi]at f;rcases Ze.mp hu with rfl|hu
  ·rw[xT r f.1];exact Du r rx f.1 fx
  ·exact iB rx fx t f.2 u' hu
noncomputable def inV(x:V)(xs:List V):Bool:=xs.any fun y=>eqV y x
noncomputable def rIn(K:PySem.W.Frag)(neg:Bool):R2:=fun x y H Q=>∃p xs,y=.ref p/\(SqL K H p xs∨SqT K H p xs)/\jA x=true/\xs.all jA=true/\Q (.bl (if neg then !inV x xs else inV x xs)) H
theorem wA:OpR X (compareOp .In) (rIn X.K false):=by
 intro pins s σ H x y v u Q I rx ry h;obtain⟨p,xs,rfl,hq,fx,fs,q⟩:=h;cases ry;rcases hq with hq|hq
 ·obtain⟨its,r,pl,hz⟩:=I.list hq;refine SeqAt.in_listAt (eqU x) pl.isList (fun w hw=>iB rx fx r fs w (by simpa using hw)) ⟨.bl _,H,I,rfl,?_⟩
  rw[show its.toArray.any (eqU x)=its.any (eqU x) by simp,kF r fs]
  exact q
 ·obtain⟨its,r,pl,hz⟩:=I.tuple hq;refine SeqAt.in_tupleAt (eqU x) pl (fun w hw=>iB rx fx r fs w (by simpa using hw)) ⟨.bl _,H,I,rfl,?_⟩
  rw[show its.toArray.any (eqU x)=its.any (eqU x) by simp,kF r fs]
  exact q
theorem qj:OpR X (compareOp .NotIn) (rIn X.K true):=by
 intro pins s σ H x y v u Q I rx ry h;obtain⟨p,xs,rfl,hq,fx,fs,q⟩:=h;cases ry;rcases hq with hq|hq
 ·obtain⟨its,r,pl,hz⟩:=I.list hq;refine SeqAt.notIn_listAt (eqU x) pl.isList (fun w hw=>iB rx fx r fs w (by simpa using hw)) ⟨.bl _,H,I,rfl,?_⟩
  rw[show its.toArray.any (eqU x)=its.any (eqU x) by simp,kF r fs]
  exact q
 ·obtain⟨its,r,pl,hz⟩:=I.tuple hq;refine SeqAt.notIn_tupleAt (eqU x) pl (fun w hw=>iB rx fx r fs w (by simpa using hw)) ⟨.bl _,H,I,rfl,?_⟩
  rw[show its.toArray.any (eqU x)=its.any (eqU x) by simp,kF r fs]
  exact q
theorem qk:CallR X (.builtin "len") (fun xs H Q=>∃p ys,xs=[.ref p]/\(SqL X.K H p ys∨SqT X.K H p ys)/\Q (.int ys.length) H):=by
 intro pins s σ H xs us Q I r h;obtain⟨p,ys,rfl,hq,q⟩:=h;obtain⟨u,rfl,rx⟩:=vals1 r;cases rx;have hn:=lD;rcases hq with hq|hq
 ·obtain⟨its,r',pl,hz⟩:=I.list hq;have hlen:=r'.length;exact Calls.call_len_list pl.isList (by simp only[Vb]<;>lia) ⟨.int ys.length,H,I.tok _,⟨s.toks+1,by rw[Vb,hlen]⟩,q⟩
 ·obtain⟨its,r',pl,hz⟩:=I.tuple hq;have hlen:=r'.length;exact len_tuple pl (by simp only[Vb]<;>lia) ⟨.int ys.length,H,I.tok _,⟨s.toks+1,by rw[Vb,hlen]⟩,q⟩
theorem ql:CallR X (.builtin "len") (fun xs H Q=>∃z,xs=[.str z]/\z.length<=sizeLine/\Q (.int z.length) H):=by
 intro pins s σ H xs us Q I r h;obtain⟨z,rfl,hz,q⟩:=h;obtain⟨u,rfl,t,rfl⟩:=vals1 r;have hn:=lD;exact len_str (by lia) ⟨.int z.length,H,I.tok _,⟨_,rfl⟩,q⟩
theorem CallR.or{f:Value}{r r':List V->Hp->VK->Prop}(h:CallR X f r)(h':CallR X f r'):CallR X f (fun xs H Q=>r xs H Q∨r' xs H Q):=by
 intro pins s σ H xs us Q I rs q;rcases q with q|q
 ·exact h pins s σ H xs us Q I rs q
 ·exact h' pins s σ H xs us Q I rs q
theorem qm:CallR X (.type "list") (fun xs H Q=>∃p ys,xs=[.ref p]/\(SqL X.K H p ys∨SqT X.K H p ys)/\∀l,H l=none->Q (.ref l) (upd H l (.lst ys))):=by
 intro pins s σ H xs us Q I r h;obtain⟨p,ys,rfl,hq,q⟩:=h;obtain⟨u,rfl,rx⟩:=vals1 r;cases rx;have fin:∀(its:List Value),Vals ys its->ys.length<=sizeLine->∀(h':Heap)(c':Nat),(∀b o',s.heap.get? b=some o'->h'.get? b=some o') ->
   h'.get? s.heap.objs.size=some { cls:=.type "list",dict:=none,data:=.seq its.toArray c',slots:=#[] }->EP X pins σ Q (.ref s.heap.objs.size) { s with heap:=h' }:=fun its r' hz h' c' kp e =>
  ⟨.ref s.heap.objs.size,_,I.laid (t':=s.toks) kp (Va _) (show ObjOk X.prog X.w _ h' _ (.lst ys) from⟨hz,its,c',r',e⟩),rfl,q _ (I.hok.fresh (Va _))⟩
 rcases hq with hq|hq
 ·obtain⟨its,r',pl,hz⟩:=I.list hq;have hlen:=r'.length;obtain⟨o,ho,hc,n,hd⟩:=pl.isList;exact call_list_seq p (.inl rfl) ho hc hd (fun h' c' kp e=>fin its r' hz h' c' kp e) (by simp only[Vb]<;>lia)
 ·obtain⟨its,r',pl,hz⟩:=I.tuple hq;have hlen:=r'.length;obtain⟨o,ho,hc,n,hd⟩:=pl;exact call_list_seq p (.inr rfl) ho hc hd (fun h' c' kp e=>fin its r' hz h' c' kp e) (by simp only[Vb]<;>lia)
theorem oQ:CallR X (.type "tuple") (fun xs H Q=>∃p ys,xs=[.ref p]/\((SqL X.K H p ys/\∀l,H l=none->Q (.ref l) (upd H l (.tup ys)))∨(SqT X.K H p ys/\Q (.ref p) H))):=by
 intro pins s σ H xs us Q I r h;obtain⟨p,ys,rfl,h⟩:=h;obtain⟨u,rfl,rx⟩:=vals1 r;cases rx;rcases h with⟨hq,q⟩|⟨hq,q⟩
 ·obtain⟨its,r',pl,hz⟩:=I.list hq;have hlen:=r'.length;refine call_tuple_list pl.isList (fun h' kp=>?_) (by simp only[Vb]<;>lia)
  have I1:Inv X pins σ H { s with heap:=h' }:=I.kept (t':=s.toks) kp;have I2:Inv X pins σ (upd H h'.objs.size (.tup ys)) { s with heap:=h'.push { cls:=.type "tuple",data:=.seq its.toArray } } :=
   I1.laid (t':=s.toks) (fun b o e=>Heap.get?_push_of_some _ e) (Va _) (show ObjOk X.prog X.w _ _ _ (.tup ys) from⟨hz,its,r',IsTup.new _ _⟩)
  exact⟨.ref h'.objs.size,_,I2,rfl,q _ (I1.hok.fresh (Va _))⟩
 ·obtain⟨its,r',pl,hz⟩:=I.tuple hq;exact call_tuple_same pl ⟨.ref p,H,I,rfl,q⟩
noncomputable def tyV(K:PySem.W.Frag)(T:String)(x:V)(H:Hp):Prop:=match x with
 | .str _=>T="str"
 | .int _=>T="int"
 | .ref p=>(T="list"/\∃xs,SqL K H p xs)∨(T="tuple"/\∃o,K.lookup p=some o/\o.cls=.type "tuple"/\o.dict=none) ∨
   (T="dict"/\((∃kvs,H p=some (.dK kvs))∨∃ep kvs,H p=some (.dT ep kvs)))∨(T="set"/\∃S n,H p=some (.set S n))
 | _=>False
theorem xU{pins:List (Addr×Obj)}{σ:St}{H:Hp}{s:Shared}{T:String}{x:V}{v:Value}(I:Inv X pins σ H s)(r:RelV x v)(ty:tyV X.K T x H) :
  s.TypeIs v T/\∀a,v=.ref a->∃ob,s.heap.get? a=some ob/\ob.dict=none:=by
 cases x with
 | str z =>
  obtain⟨t,rfl⟩:=r;cases (show T="str" from ty);exact⟨typeIs_str s z t,fun _ e=>nomatch e⟩
 | int i =>
  obtain⟨t,rfl⟩:=r;cases (show T="int" from ty);exact⟨typeIs_int s i t,fun _ e=>nomatch e⟩
 | ref p =>
  cases r;rcases ty with⟨rfl,xs,hq⟩|⟨rfl,o,hk,hc,hd⟩|⟨rfl,hk⟩|⟨rfl,S,n,hk⟩
  ·obtain⟨its,_,pl,_⟩:=I.list hq;refine⟨pl.isList.typeIs,fun a e=>?_⟩;cases e;obtain⟨o,n,e,c,hd,_⟩:=pl;exact⟨o,e,hd⟩
  ·refine⟨⟨o,I.kIn p o hk,hc⟩,fun a e=>?_⟩;cases e;exact⟨o,I.kIn _ o hk,hd⟩
  ·have z:∃o,s.heap.get? p=some o/\o.ExactDict:=by
    rcases hk with⟨kvs,hk⟩|⟨ep,kvs,hk⟩
    ·obtain⟨_,_,_,_,o,_,_,e,ex,_⟩:=I.hok p _ hk;exact⟨o,e,ex⟩
    ·obtain⟨_,_,_,_,_,o,_,e,ex,_⟩:=I.hok p _ hk;exact⟨o,e,ex⟩
   obtain⟨o,e,ex⟩:=z;refine⟨⟨o,e,ex.1⟩,fun a e2=>?_⟩;cases e2;exact⟨o,e,ex.2.1⟩
  ·obtain⟨o,_,_,_,e,ex,_⟩:=I.hok p _ hk;refine⟨⟨o,e,ex.1⟩,fun a e2=>?_⟩;cases e2;exact⟨o,e,ex.2.1⟩
 | _=>exact False.elim ty
noncomputable def Fp(K:PySem.W.Frag)(T:String)(r:V->List V->Hp->VK->Prop)(to:TE):TE:=fun σ H Q=>to σ H fun x H1=>tyV K T x H1/\r x [] H1 Q
noncomputable def tBM(K:PySem.W.Frag)(T:String)(r:V->List V->Hp->VK->Prop)(to:TE)(t:TA):TE:=fun σ H Q=>to σ H fun x H1=>tyV K T x H1/\t σ H1 fun xs H2=>r x xs H2 Q
variable {o e:Expr}{es:List Expr}{to:TE}{t:TA}{name:Str}{apos cpos:Pos}{T id:String}{r:V->List V->Hp->VK->Prop}
theorem xV(pa:PlainAttrs T)(slot:Slot T name id)(hty:typeOf (.builtin id)=pure (.type "method_descriptor"))(hm:MtR X id r)(ho:PE X o to)
  (hbase:attributeBase o name X.env (eval o X.env)=eval o X.env:=by rfl)(hline:(apos.endLine == cpos.line)=true:=by rfl):PE X (.Call (.Attribute o name apos) [] [] cpos) (Fp X.K T r to):=by
 intro pins s σ H Q I h;refine wpAny_Call_method0_late hbase hline (thn (ho pins s σ H _ I h) fun v s1 zz9=>?_);obtain⟨x,H1,I1,r1,ty,q1⟩:=zz9;obtain⟨h1,h2⟩:=xU I1 r1 ty;exact⟨T,id,pa,slot,hty,h1,h2,Calls.callWith_builtin rfl (PySem.evalArgs_none (hm pins s1 σ H1 x [] v [] Q I1 r1 .nil q1))⟩
theorem d9(pa:PlainAttrs T)(slot:Slot T name id)(hty:typeOf (.builtin id)=pure (.type "method_descriptor"))(hm:MtR X id r)(ho:PE X o to)(ha:PA X (e::es) t)
  (hbase:attributeBase o name X.env (eval o X.env)=eval o X.env:=by rfl)
  (hfew:((backTo cpos (starEach (e::es) X.env)).all (fun x=>!x.1)&&(backToKw cpos (keywordEach [] X.env)).all (fun x=>x.1.isSome)
   && decide ((e::es).length+([]:List Keyword).length+(if ([]:List Keyword).isEmpty then 0 else 1)<30))=true:=by rfl)
  (hline:(apos.endLine == cpos.line)=true:=by rfl) (hs:starEach (e::es) X.env=(false,eval e X.env)::starEach es X.env:=by rfl) (hplain:(backTo cpos (starEach es X.env)).any (·.1)=false:=by rfl) :
  PE X (.Call (.Attribute o name apos) (e::es) [] cpos) (tBM X.K T r to t):=by
 intro pins s σ H Q I h;refine wpAny_Call_method_late hbase hfew hline rfl (thn (ho pins s σ H _ I h) fun v s1 zz9=>?_);obtain⟨x,H1,I1,r1,ty,q1⟩:=zz9;obtain⟨h1,h2⟩:=xU I1 r1 ty;refine⟨T,id,pa,slot,hty,h1,h2,?_⟩;have hA:=ha cpos pins s1 σ H1 _ I1 q1;rw[hs]at hA ⊢;refine Calls.callWith_builtin (by show(false||(backTo cpos (starEach es X.env)).any (·.1))=false;rw[hplain]<;>rfl) (Calls.evalArgs_plain ?_)
 exact thn hA fun us s2 ⟨vs,H2,I2,r2,q2⟩=>hm pins s2 σ H2 x vs v us Q I2 r1 r2 q2
end
end L2
namespace L2
open PySem PySem.Spec PyProof.Rows
noncomputable def MtM(X:Cx)(id:String)(r:V->List V->Hp->VK->Prop):Prop :=
 ∀(pins:List (Addr×Obj))(s:Shared)(σ:St)(H:Hp)(x:V)(xs:List V)(v:Value)(us:List Value)(Q:VK),Inv X pins σ H s->RelV x v->Vals xs us->r x xs H Q ->
  wpAny (model X.prog X.w) X.A (call (.builtin id) (v::us)) (EP X pins σ Q) X.xe s
theorem Vals.one:∀{x:V}{us:List Value},Vals [x] us->∃u,us=[u]/\RelV x u
 | _,_,.cons r .nil=>⟨_,rfl,r⟩
theorem Vals.zero:∀{us:List Value},Vals [] us->us=[]
 | _,.nil=>rfl
theorem Vals.dropLast{xs:List V}{us:List Value}(h:Vals xs us):Vals xs.dropLast us.dropLast:=by
 induction h with
 | nil=>exact .nil
 | cons r t ih =>
  cases t with
  | nil=>exact .nil
  | cons q t'=>exact .cons r ih
theorem Vals.eraseIdx:∀{xs:List V}{us:List Value}(i:Nat),Vals xs us->Vals (xs.eraseIdx i) (us.eraseIdx i)
 | _,_,_,.nil=>.nil
 | _,_,0,.cons _ t=>t
 | _,_,i+1,.cons r t=>.cons r (Vals.eraseIdx i t)
theorem tV{α:Type}(l:List α):l.eraseIdx (l.length-1)=l.dropLast:=by
 induction l with
 | nil=>rfl
 | cons a r ih =>
  cases r with
  | nil=>rfl
  | cons b r =>
   have e:(a::b::r).length-1=((b::r).length-1)+1:=by
    have h1:(a::b::r).length=r.length+2:=rfl;have h2:(b::r).length=r.length+1:=rfl;lia
   rw[e,List.eraseIdx_cons_succ,ih]
   all_goals rfl
theorem pz{α:Type}:∀(l:List α)(i:Nat),(l.eraseIdx i).length<=l.length
 | [],_=>Va _
 | _::_,0=>Nat.le_succ _
 | _::r,i+1=>Nat.succ_le_succ (pz r i)
section
variable {X:Cx}{pins:List (Addr×Obj)}{σ:St}{H:Hp}{s:Shared}{l b:Addr}{xs ys zs:List V}
theorem Inv.lset{its its':List Value}{n:Nat}{f:Array Value->Array Value}{t':Nat}(I:Inv X pins σ H s)(hH:H l=some (.lst xs))
  (e:s.heap.get? l=some { cls:=.type "list",data:=.seq its.toArray n })(hf:f its.toArray=its'.toArray)(hv:Vals ys its')(hz:ys.length<=sizeLine) :
  Inv X pins σ (upd H l (.lst ys)) { s with heap:=s.heap.update l (Obj.mapSeq f),toks:=t' }:=by
 have q:=PySem.IsL.update e f;rw[hf]at q;refine I.write (x:=l) (e:=l) (by rw[hH];exact trivial) (.inl rfl) (fun b' u hb hu=>(Heap.get?_update_other s.heap (Obj.mapSeq f) (Ne.symm hb)).trans hu) ⟨_,q⟩ ?_
 exact⟨hz,its',_,hv,q⟩
theorem Inv.lnew{its:List Value}{t':Nat}(I:Inv X pins σ H s)(hv:Vals ys its)(hz:ys.length<=sizeLine) :
  Inv X pins σ (upd H s.heap.objs.size (.lst ys)) { s with heap:=s.heap.push { cls:=.type "list",data:=.seq its.toArray },toks:=t' } :=
 I.laid (fun _ _ q=>Heap.get?_push_of_some _ q) (Va _) ⟨hz,its,0,hv,Heap.get?_push_size _ rfl⟩
theorem Inv.fresh(I:Inv X pins σ H s):H s.heap.objs.size=none:=I.hok.fresh (Va _)
theorem Inv.lstM(I:Inv X pins σ H s)(hH:H l=some (.lst xs)):xs.length<=sizeLine/\∃(its:List Value)(n:Nat),Vals xs its/\xs.length=its.length/\s.heap.get? l=some { cls:=.type "list",data:=.seq its.toArray n }:=by
 obtain⟨z,its,n,r,e⟩:=I.hok l _ hH;exact⟨z,its,n,r,r.length,e⟩
theorem rJ{n:Nat}(h:n<=sizeLine):Builtin.List.listTooLong n=false:=by
 unfold Builtin.List.listTooLong;exact decide_eq_false (by lia)
end
section
variable {X:Cx}
noncomputable def uZ:V->List V->Hp->VK->Prop:=fun x vs H Q=>∃l xs y,x=.ref l/\vs=[y]/\H l=some (.lst xs)/\xs.length<sizeLine/\Q .non (upd H l (.lst (xs++[y])))
theorem cL:MtM X "list.append" uZ:=by
 intro pins s σ H x vs v us Q I rx rv h;obtain⟨l,xs,y,rfl,rfl,hH,hz,q⟩:=h;cases rx;obtain⟨u,rfl,ru⟩:=rv.one;obtain⟨z,its,n,r,hl,e⟩:=I.lstM hH;refine call_meets F.slot_list_append ⟨_,e,rfl⟩ F.entry_list_append (F.args_list_append_2 _ _) (PySem.list_append l its.toArray n u (by rw[Vb];lia)) ⟨e,?_⟩
 refine⟨.non,_,I.lset (its':=its++[u]) hH e (by simp) (r.append (.cons ru .nil)) ?_,rfl,q⟩
 rw[Xa,Qg];lia
noncomputable def u3:V->List V->Hp->VK->Prop:=fun x vs H Q=>∃l b xs zs,x=.ref l/\vs=[.ref b]/\H l=some (.lst xs)/\H b=some (.lst zs)/\xs.length+zs.length<=sizeLine/\Q .non (upd H l (.lst (xs++zs)))
theorem wB:MtM X "list.extend" u3:=by
 intro pins s σ H x vs v us Q I rx rv h;obtain⟨l,b,xs,zs,rfl,rfl,hH,hB,hz,q⟩:=h;cases rx;obtain⟨u,rfl,ru⟩:=rv.one;cases ru;obtain⟨z,its,n,r,hl,e⟩:=I.lstM hH;obtain⟨z2,its2,n2,r2,hl2,e2⟩:=I.lstM hB;have hsz:its.toArray.size+its2.toArray.size<=sizeLine:=by rw[Vb,Vb];lia
 have hlong:¬ (!its.toArray.isEmpty&&Builtin.List.listTooLong (its.toArray.size+its2.toArray.size))=true:=by
  rw[rJ hsz,Bool.and_false];exact Yd
 refine call_meets F.slot_list_extend ⟨_,e,rfl⟩ F.entry_list_extend (F.args_list_extend_2 _ _)
  (AutoSeq1.list_extend_list_list_0 l its.toArray n b its2.toArray n2 hlong (by rw[Vb];lia) (by lia)) ⟨e,e2,?_⟩
 refine⟨.non,_,I.lset (its':=its++its2) hH e (by simp) (r.append r2) ?_,rfl,q⟩
 rw[Xa];lia
noncomputable def Fq:V->List V->Hp->VK->Prop:=fun x vs H Q=>∃l xs y,x=.ref l/\vs=[]/\H l=some (.lst xs)/\xs[xs.length-1]?=some y/\Q y (upd H l (.lst xs.dropLast))
theorem xW:MtM X "list.pop" Fq:=by
 intro pins s σ H x vs v us Q I rx rv h;obtain⟨l,xs,y,rfl,rfl,hH,hy,q⟩:=h;cases rx;have hus:=rv.zero;subst hus;obtain⟨z,its,n,r,hl,e⟩:=I.lstM hH;obtain⟨u,hu,ru⟩:=r.get hy;have hy':its.toArray[its.toArray.size-1]?=some u:=by
  show its.toArray[its.length-1]?=some u;rw[← Wg,← hl];exact hu
 refine call_meets F.slot_list_pop ⟨_,e,rfl⟩ F.entry_list_pop (F.args_list_pop_1 _) (MeetsSeq.list_pop_last l its.toArray n u hy' (by rw[Vb];lia)) ⟨e,?_⟩
 refine⟨y,_,I.lset (its':=its.dropLast) hH e ?_ r.dropLast ?_,ru,q⟩
 ·show its.toArray.eraseIdxIfInBounds (its.toArray.size-1)=its.dropLast.toArray;rw[Vb,List.eraseIdxIfInBounds_toArray,tV]
 ·rw[List.length_dropLast];lia
noncomputable def xX:V->List V->Hp->VK->Prop:=fun x vs H Q=>∃l xs i k y,x=.ref l/\vs=[.int i]/\H l=some (.lst xs)/\-(2 ^ 63)<=i/\i<2 ^ 63/\seqIndex? i xs.length=some k/\xs[k]?=some y/\Q y (upd H l (.lst (xs.eraseIdx k)))
theorem xY:MtM X "list.pop" xX:=by
 intro pins s σ H x vs v us Q I rx rv h;obtain⟨l,xs,i,k,y,rfl,rfl,hH,h1,h2,hk,hy,q⟩:=h;cases rx;obtain⟨u,rfl,ru⟩:=rv.one;obtain⟨t,rfl⟩:=ru;obtain⟨z,its,n,r,hl,e⟩:=I.lstM hH;obtain⟨w,hw,rw'⟩:=r.get hy;refine call_meets F.slot_list_pop ⟨_,e,rfl⟩ F.entry_list_pop (F.args_list_pop_2 _ _)
  (MeetsSeq.list_pop_at l its.toArray n i t k w (fitsIndex_both h1 h2) (by rw[Vb,← hl];exact hk) (by rw[← Wg];exact hw) (by rw[Vb];lia)) ⟨e,?_⟩
 refine⟨y,_,I.lset (its':=its.eraseIdx k) hH e ?_ (r.eraseIdx k) ?_,rw',q⟩
 ·show its.toArray.eraseIdxIfInBounds k=(its.eraseIdx k).toArray;rw[List.eraseIdxIfInBounds_toArray]
 ·have:=pz xs k;lia
noncomputable def Dv:R2:=fun x y H Q=>∃l b xs zs,x=.ref l/\y=.ref b/\H l=some (.lst xs)/\H b=some (.lst zs)/\xs.length+zs.length<=sizeLine/\∀p,H p=none->Q (.ref p) (upd H p (.lst (xs++zs)))
theorem op_cat:OpR X (binaryOp .Add) Dv:=by
 intro pins s σ H x y v u Q I rx ry h;obtain⟨l,b,xs,zs,rfl,rfl,hH,hB,hz,q⟩:=h;cases rx;cases ry;obtain⟨z,its,n,r,hl,e⟩:=I.lstM hH;obtain⟨z2,its2,n2,r2,hl2,e2⟩:=I.lstM hB;refine PySem.P.add_list e e2 ?_ (by rw[Vb,Vb];lia)
 have ea:its.toArray++its2.toArray=(its++its2).toArray:=by simp
 rw[ea];exact⟨.ref _,_,I.lnew (t':=s.toks) (r.append r2) (by rw[Xa];lia),rfl,q _ I.fresh⟩
end
end L2
namespace Att
open PySem PySem.W PySem.Calls PyProof.Rows
theorem mv{P:Params}{h:Heap}:∀(ns:List Int)(vs:List Value),WellAll P h vs (ns.map WData.int)->IntsAre vs ns:=by
 intro ns;induction ns with
 | nil =>
  intro vs w;rw[List.map_nil]at w;cases w;exact .nil
 | cons n ns ih =>
  intro vs w;rw[Xf]at w;cases w with
  | cons a b =>
   cases a;exact .cons _ _ (ih _ b)
theorem wC{l:OpenLaw}{n:Nat}(hn:l.most=some n){P:Params}{h:Heap}{args:List WData}{vals:List Value}
  (hpre:l.row.toRowW.claim.pre args=true)(hwl:WellAll P h vals args) :
  ∃a vs ns,vals=[Value.ref a]/\args=[WData.list (ns.map WData.int)]/\h.get? a=some { cls:=.type "list",data:=.seq vs.toArray }/\IntsAre vs ns/\ns.length<=n:=by
 have hsh:WShape.hasAll [] args [.list .int]=true:=(pre_splitW hpre).1;have hc:l.pre.holds [] { args:=args }=true:=(pre_splitW hpre).2;obtain⟨d,r,rfl,h1,h2⟩:=hasAllW_cons hsh;obtain rfl:=hasAllW_nil h2;obtain⟨xs,rfl,h3⟩:=hasW_list h1;obtain⟨ns,rfl⟩:=items_int h3;have hlen:ns.length<=n:=by
  unfold OpenLaw.pre at hc;have h4:(WTm.not (.lt (.lit (.int (n:Int))) (.len (.arg 0)))).holds [] { args:=[.list (ns.map .int)] }=true:=by
   have h4:=(holds_andW hc).1;rw[hn]at h4;exact h4
  have h5:=condW_of h4 (w_not (w_lt w_lit (w_len_list (w_arg rfl))));rw[Ya]at h5;refine Nat.le_of_not_lt fun q=>?_;have q':(n:Int)<((ns.length:Nat):Int):=by lia
  first
   | (rw[decide_eq_true q']at h5;exact absurd h5 (by decide))
   | (simp at h5;lia)
 cases hwl with
 | cons w1 w2 =>
  cases w2;cases w1 with
  | list ho hall=>exact⟨_,_,ns,rfl,rfl,ho,mv ns _ hall,hlen⟩
theorem wD(l:OpenLaw)(args:List WData):l.row.toRowW.claim.post args (.bool true) args=true :=
 postW_of (r:=l.row.toRowW) (X:=(true == true))
  (show WShape.has [] (.bool true) .bool=true by first|rfl|decide|simp[WShape.has,WShape.arms,WShape.armsAll])
  (show(WTm.eq .res (.lit (.bool true))).value [] { args:=args,res:=some (.bool true),after:=args }=some (.bool (true == true)) from w_eq_bool (w_res rfl) w_lit) rfl
theorem attach_call{l:OpenLaw}{n:Nat}{q:Program}{loose:List Str}{XP:(Str->Option Value)->Heap->Prop}{YP:World->Heap->Prop}{d:DefRec}
  (hn:l.most=some n)(hdf:d.params.defaults=[])
  (call:∀(w:World)(s₀ s₁:Shared)(mg mb:Str->Option Value)(fa:Addr)(o:Obj)(pm cd doc:Value)(a:Addr)(vs:List Value)(ns:List Int),
   Ground q loose [] XP w s₀ mg mb s₁.heap->YP w s₁.heap ->
   s₁.heap.get? fa=some o->o.data=.func (docDef d.name d.params d.body d.scope pm cd doc)->s₁.heap.CodeRec cd d.name->mg d.name=some (.ref fa) ->
   s₁.heap.get? a=some { cls:=.type "list",data:=.seq vs.toArray }->IntsAre vs ns->ns.length<=n->s₁.gens=#[] ->
   codeAny (model l.prog w) callerA (.call (.ref fa) ⟨[.ref a],[]⟩) (fun r s'=>r=.ok (.ret (.bool true))/\OldK s₁.heap s'.heap/\s'.os=s₁.os/\AllBare s'.gens) s₁) :
  WalkO q loose XP YP l.row.toRowW d [] (fun f vs=>PySem.call f vs):=by
 intro w s₀ s₁ mg mb G Y fa o pm cd doc dV kV ho hd hcd hD hmg hg args vals as hpre hlay hrd hwl hlo;obtain rfl:dV=.none:=Dflts.none hD hdf;obtain rfl:kV=.none:=Dflts.noKw hD;obtain⟨a,vs,ns,rfl,rfl,hobj,hints,hlen⟩:=wC hn hpre hwl;refine enter_call (codeAny_mono (call w s₀ s₁ mg mb fa o pm cd doc a vs ns G Y ho (fd_plain hd) hcd hmg hobj hints hlen hg) fun r s' hq=>?_);obtain⟨rfl,h2,h3,h4⟩:=hq;exact⟨.inl ⟨.bool true,.bool true,[],rfl,fun _=>rfl,.bool true,wD l _,fun _=>⟨List.Pairwise.nil,fun _ hm=>(nomatch hm)⟩⟩,h2,h3,h4⟩
end Att
namespace L2
open PySem PySem.Spec PyProof.Rows
theorem pA:∀{vs:List Value}{ns:List Int},IntsAre vs ns->Vals (ns.map V.int) vs
 | _,_,.nil=>.nil
 | _,_,.cons n t h=>.cons ⟨t,rfl⟩ (pA h)
noncomputable def Dw(H:Hp):Prop:=∀b,H b=none∨∃o xs,H b=some (.frz o (.lst xs))
theorem xZ{P:Program}{w:World}{K:PySem.W.Frag}{mg mb:Str->Option Value}{CX:CXT}{k:Nat}{fa a:Addr}{fd:FuncData}{x:Str}{sp:Sp}{s₁:Shared}{vs:List Value}{ns:List Int}
  (KX:K.In s₁.heap)(hns:s₁.heap.Ns mainGlobals mg)(hb:s₁.heap.Ns builtinsNs mb)(hbb:∀x:Str,x≠"__name__"->mb x=bootBuiltins x)(hlim:s₁.heap.NoLimit)(hg:s₁.gens=#[])
  (ha:s₁.heap.get? a=some { cls:=.type "list",data:=.seq vs.toArray }) (hi:IntsAre vs ns) (hl:ns.length<=sizeLine) (hr:Room k callerA)
  (F:∀base:Heap,K.In base->base.Ns mainGlobals mg->FnOk P w K mg base CX k fa fd [x] sp) (hbind:∀(s:Shared)(u:Value),BindsTo s fd ⟨[u],[]⟩ [(x,u)])
  (hsp:∀H:Hp,Dw H->SqL K H a (ns.map V.int)->sp [.ref a] H (fun v _=>v=.bl true) fun _ _ _=>False)
  (hCX:∀H e s',CX [] H s₁ (fun _ _ _=>False) e s'->False) :
  codeAny (model P w) callerA (.call (.ref fa) ⟨[.ref a],[]⟩) (fun r s'=>r=.ok (.ret (.bool true))/\OldK s₁.heap s'.heap/\s'.os=s₁.os/\AllBare s'.gens) s₁:=by
 have rv:=pA hi;have DK:=hi.length;have core:∀H:Hp,Dw H->SqL K H a (ns.map V.int)->HOk P w H s₁.heap->(∀b,H b≠none->b=a)->(H a≠none->K.lookup a=none) ->
   codeAny (model P w) callerA (.call (.ref fa) ⟨[.ref a],[]⟩) (fun r s'=>r=.ok (.ret (.bool true))/\OldK s₁.heap s'.heap/\s'.os=s₁.os/\AllBare s'.gens) s₁:=by
  intro H hO hS hok hA hK;have base_of:∀{b:Addr}{o:Obj},s₁.heap.get? b=some o->H b=none->(qd s₁.heap H).get? b=some o:=fun e n=>xB e n;have noA:∀{b:Addr}{o:Obj}{es:Array DictEntry}{ep:Nat},s₁.heap.get? b=some o->o.data=.dict es ep->H b=none:=fun {b o es ep} e d=>by
   cases q:H b with
   | none=>rfl
   | some u =>
    have e':b=a:=hA b (by rw[q];simp)
    subst e';rw[ha]at e;cases e;have d':Data.seq vs.toArray _=Data.dict es ep:=d;cases d'
  have nsK:∀{b:Addr}{m:Str->Option Value},s₁.heap.Ns b m->(qd s₁.heap H).Ns b m:=fun {b m} ⟨o,es,ep,e,d,r⟩=>⟨o,es,ep,base_of e (noA e d),d,r⟩
  have hKb:K.In (qd s₁.heap H):=fun b o e=>base_of (KX b o e) (by
   cases q:H b with
   | none=>rfl
   | some u =>
    have e':b=a:=hA b (by rw[q];simp)
    subst e'
    rw[hK (by rw[q];simp)]at e;cases e)
  have hM:Mod K mg (qd s₁.heap H):=⟨hKb,nsK hns,⟨mb,nsK hb,hbb⟩,let ⟨mc,h1,h2⟩:=hlim;⟨mc,nsK h1,h2⟩⟩;have e0:Env0 P w K mg (qd s₁.heap H) callerA [] s₁ H:=⟨rfl,hM,fun b o e=>Ay e,Nat.le_of_eq (wn _ _),trivial,fun b hb=>absurd (show b∈([]:List Addr) from hb) (by simp),hok,.of_eq hg⟩
  refine codeAny_mono ((F _ hKb (nsK hns)).run callerA [] s₁ H ⟨[.ref a],[]⟩ [.ref a] [.ref a] _ _ hr e0 (hbind s₁ (.ref a)) (.cons rfl .nil) (hsp H hO hS)) fun r s' h=>?_;cases r with
  | error e=>exact(hCX H e s' h).elim
  | ok fl =>
   cases fl with
   | next=>exact False.elim h
   | brk=>exact False.elim h
   | cont=>exact False.elim h
   | ret u =>
    obtain⟨v,H',os,bare,un,hok',r',q⟩:=h;have q':v=.bl true:=q;subst q';obtain rfl:u=Value.bool true:=r';refine⟨rfl,OldK.of_keep fun b o e=>?_,os,bare⟩;cases q:H b with
    | none=>exact un.keep b o e q (by intro z;exact absurd (show b∈([]:List Addr) from z) (by simp)) (by simp)
    | some u =>
     rcases hO b with z|⟨ob,xs,z⟩
     ·rw[q]at z;cases z
     ·have z2:=un.frzs b ob _ z;obtain⟨e1,_⟩:=hok b _ z;obtain⟨e2,_⟩:=hok' b _ z2;rw[e]at e1;cases e1;exact e2
 cases hk:K.lookup a with
 | some o =>
  have e:=KX a o hk;rw[ha]at e;cases e;refine core (fun _=>none) (fun _=>.inl rfl) (.inr ⟨_,vs.toArray,_,hk,rfl,rfl,rfl,by rw[Vb,DK];exact hl,by simpa using rv⟩) (fun b u z=>by have z':(none:Option HO)=some u:=z;cases z') (fun b z=>absurd rfl z) fun z=>absurd rfl z
 | none =>
  refine core (fun b=>if b=a then some (.frz { cls:=.type "list",data:=.seq vs.toArray } (.lst (ns.map V.int))) else none) (fun b=>?_) (.inl (.inr ⟨{ cls:=.type "list",data:=.seq vs.toArray },if_pos rfl⟩)) (fun b u z=>?_) (fun b z=>?_) fun _=>hk
  ·by_cases hb:b=a
   ·exact .inr ⟨_,_,if_pos hb⟩
   ·exact .inl (if_neg hb)
  ·by_cases hb:b=a
   ·have z':=(if_pos hb).symm.trans z;cases z';subst hb;exact⟨ha,by rw[Ya];exact hl,vs,_,rv,ha⟩
   ·have z':=(if_neg hb).symm.trans z;cases z'
  ·by_cases hb:b=a
   ·exact hb
   ·exact absurd (if_neg hb) z
theorem walk_of{l:PySem.W.OpenLaw}{n k:Nat}{q:Program}{loose:List Str}{XP:(Str->Option Value)->Heap->Prop}{YP:World->Heap->Prop}{d:DefRec}{K:Params->PySem.W.Frag}{CX:World->CXT}{sp:World->Sp}{x:Str}
  (hn:l.most=some n)(hn2:n<=sizeLine)(hdf:d.params.defaults=[])(hr:Room k callerA)
  (hY:∀(w:World)(h:Heap),YP w h->(K w.params).In h)
  (F:∀(w:World)(mg:Str->Option Value)(fa:Addr)(h:Heap),(K w.params).In h->h.Ns mainGlobals mg->mg d.name=some (.ref fa) ->
   ∃fd:FuncData,(∀(s:Shared)(u:Value),BindsTo s fd ⟨[u],[]⟩ [(x,u)]) /\
    ∀base:Heap,(K w.params).In base->base.Ns mainGlobals mg->FnOk l.prog w (K w.params) mg base (CX w) k fa fd [x] (sp w))
  (hsp:∀(w:World)(H:Hp)(a:Addr)(ns:List Int),ns.length<=n->Dw H->SqL (K w.params) H a (ns.map V.int)->sp w [.ref a] H (fun v _=>v=.bl true) fun _ _ _=>False)
  (hCX:∀(w:World)(H:Hp)(s:Shared)(e:Value)(s':Shared),CX w [] H s (fun _ _ _=>False) e s'->False) :
  PySem.W.WalkO q loose XP YP l.row.toRowW d [] (fun f vs=>PySem.call f vs):=by
 refine Att.attach_call hn hdf fun w s₀ s₁ mg mb fa o pm cd doc a vs ns G Y ho hd hcd hmg hobj hints hlen hg=>?_;have KX:=hY w _ Y;obtain⟨fd,hb,hF⟩:=F w mg fa _ KX G.T.g hmg;exact xZ KX G.T.g G.T.b G.T.builtins G.T.nolimit hg hobj hints (Xe hlen hn2) hr hF hb (fun H hO hS=>hsp w H a ns hlen hO hS) fun H e s'=>hCX w H s₁ e s'
end L2
namespace L2
open PySem PySem.Spec PyProof.Rows
noncomputable def jg(s:Stmt):Arguments:=match s with
 | .FunctionDef _ a _ _ _ _ _ _ _ _=>a
 | _=>{ posonlyargs:=[],args:=[],vararg:=none,kwonlyargs:=[],kw_defaults:=[],kwarg:=none,defaults:=[] }
noncomputable def fN(s:Stmt):List Stmt:=match s with
 | .FunctionDef _ _ b _ _ _ _ _ _ _=>b
 | _=>[]
noncomputable def aB(s:Stmt):Scope:=match s with
 | .FunctionDef _ _ _ _ _ _ sc _ _ _=>sc
 | _=>{ kind:=.function,names:=[],isGenerator:=false,isCoroutine:=false }
noncomputable abbrev CX0:CXT:=fun _ _ _ _ _ _=>False
noncomputable abbrev E0:XK:=fun _ _ _=>False
theorem Fr{X:Cx}:tQ CX0 X E0:=fun _ _ _ _ _ _ _ h=>h.elim
structure Fun(K:PySem.W.Frag)(x qual:Str)(st:Stmt)(f:Addr)(fd:FuncData):Prop where
 ex:∃(oc:Value)(od:Option Addr)(kV doc pm:Value)(an:Option Addr)(cdv ct:Value)(osl:Array (Option Value)),
  fd=PySem.W.fnOf x qual (jg st) (fN st) (aB st) .none kV doc pm an cdv ct/\K.lookup f=some ⟨oc,od,.func fd,osl⟩/\PySem.W.codeIn K cdv qual=true
 kp:PySem.W.keepIn K (.ref f)=true
section
variable {P:Program}{w:World}{K:PySem.W.Frag}{mg:Str->Option Value}{base:Heap}
theorem Fun.ok{x qual:Str}{st:Stmt}{f:Addr}{fd:FuncData}{N ps:List Str}{k:Nat}{sp:Sp}(F:Fun K x qual st f fd)(S:FnScope N ps (aB st))(len:∀vs H Q E,sp vs H Q E->vs.length=ps.length)
  (hbody:∀(cdv:Value)(A:Around)(outer:List Env)(s:Shared)(H:Hp)(vs:List V)(Q:VK)(E:XK),Room k (A.deeper (envOfC qual (aB st) s.heap.objs.size f cdv))->sp vs H Q E ->
   ∃t,PSs (tR CX0 P w K mg base N qual (aB st) f cdv A outer s H E).nox (fN st) t/\t { nx:=fun _ H'=>Q .non H',rt:=Q } (start N vs) H):FnOk P w K mg base CX0 (k+1) f fd ps sp:=by
 obtain⟨oc,od,kV,doc,pm,an,cdv,ct,osl,rfl,lk,hcd⟩:=F.ex;refine Fj lk hcd S len fun A outer s H vs Q E hr hsp=>?_;obtain⟨t,h,q⟩:=hbody cdv A outer s H vs Q E hr hsp;exact⟨t,h.nox,q⟩
theorem Fun.binds{x qual:Str}{st:Stmt}{f:Addr}{fd:FuncData}{ps:List Str}(F:Fun K x qual st f fd)
  (h:∀(kV doc pm:Value)(an:Option Addr)(cdv ct:Value)(us:List Value),us.length=ps.length->bindArgs (PySem.W.fnOf x qual (jg st) (fN st) (aB st) .none kV doc pm an cdv ct) ⟨us,[]⟩=pure (ps.zip us)):Binds K fd ps []:=by
 obtain⟨oc,od,kV,doc,pm,an,cdv,ct,osl,rfl,lk,hcd⟩:=F.ex;exact .all (h kV doc pm an cdv ct)
theorem Dx{x qual:Str}{st:Stmt}{f:Addr}{oc:Value}{od an:Option Addr}{osl:Array (Option Value)}{kV doc pm cdv ct:Value}(l:K.lookup f=some ⟨oc,od,.func (PySem.W.fnOf x qual (jg st) (fN st) (aB st) .none kV doc pm an cdv ct),osl⟩)
  (c:PySem.W.codeIn K cdv qual=true)(k:PySem.W.keepIn K (.ref f)=true):Fun K x qual st f (PySem.W.fnOf x qual (jg st) (fN st) (aB st) .none kV doc pm an cdv ct):=⟨⟨oc,od,kV,doc,pm,an,cdv,ct,osl,rfl,l,c⟩,k⟩
end
theorem lW{A:Around}{k:Nat}(hr:Room k A):A.units+1<cLine:=Yn (Yj (by decide:1<=64) _) hr.units
theorem wE{n:Nat}(h:n<=1000):n<sizeLine:=Yn h (by decide)
section
variable {X:Cx}
theorem pv(i:Nat){x:Str}{pos:Pos}(hN:X.N[i]?=some x:=by rfl)(hv:Vis X.env.scope x:=by first|exact Or.inl rfl|exact Or.inr (Or.inl rfl)|exact Or.inr (Or.inr rfl))(hd:(x == ("__debug__":Str))=false:=by decide)
  (hcd:(x == ("__classdict__":Str))=false:=by decide):PE X (.Name x pos) (tK i):=C4 hN hv hd hcd
end
noncomputable def Same(H H':Hp):Prop:=∀b o,H b=some o->H' b=some o
theorem Same.refl(H:Hp):Same H H:=fun _ _ h=>h
end L2
namespace L2
open PySem PySem.Spec PyProof.Rows
noncomputable def cg(env:Env):List (Str×NameKind)->List (Str×Addr)->List (Str×Addr)
 | [],acc=>acc
 | (n,k)::r,acc=>if k=.free then cg env r ((n,(env.cells.lookup n).getD 0)::acc) else cg env r acc
theorem gI{env:Env}{f:Str×NameKind->List (Str×Addr)->Sem (ForInStep (List (Str×Addr)))}
  (h1:∀n k cs c,k=NameKind.free->env.cells.lookup n=some c->f (n,k) cs=pure (.yield ((n,c)::cs)))
  (h2:∀n k cs,k≠NameKind.free->f (n,k) cs=pure (.yield cs)) :
  ∀(names:List (Str×NameKind))(acc:List (Str×Addr)),(∀x∈names,x.2=.free->∃c,env.cells.lookup x.1=some c)->forIn names acc f=pure (cg env names acc)
 | [],_,_=>rfl
 | (n,k)::r,acc,h=>by
  have hr:∀x∈r,x.2=.free->∃c,env.cells.lookup x.1=some c:=fun x hx=>h x (Xb _ hx);by_cases hk:k=.free
  ·obtain⟨c,hc⟩:=h (n,k) Zc hk;have e:cg env ((n,k)::r) acc=cg env r ((n,c)::acc):=by
    show(if k=.free then _ else _)=_;rw[if_pos hk];have hc':env.cells.lookup n=some c:=hc;rw[hc'];rfl
   rw[List.forIn_cons,h1 n k acc c hk hc,pure_bind,e];exact gI h1 h2 r _ hr
  ·have e:cg env ((n,k)::r) acc=cg env r acc:=by
    show(if k=.free then _ else _)=_;rw[if_neg hk]
   rw[List.forIn_cons,h2 n k acc hk,pure_bind,e];exact gI h1 h2 r _ hr
theorem kG{scope:Scope}{env:Env}(h:∀x∈scope.names,x.2=.free->∃c,env.cells.lookup x.1=some c):closureFor scope env=pure (cg env scope.names []):=by
 simp only[closureFor];have key:=fun f h1 h2=>gI (env:=env) (f:=f) h1 h2 scope.names [] h
 rw[key _ (fun n k cs c hk hc=>by subst hk;simp[cellOf,hc]) (fun n k cs hk=>by
  have:(k == NameKind.free)=false:=by simpa using hk
  simp only[this,Qe,if_false])]
 rfl
theorem cJ{α β:Type}[BEq α]{x n:α}{k:β}{r:List (α×β)}:List.lookup x ((n,k)::r)=if (x == n)=true then some k else List.lookup x r:=by
 rw[List.lookup_cons];cases x == n<;>rfl
theorem fW{env:Env}{x:Str}{c:Addr}:∀(names:List (Str×NameKind))(acc:List (Str×Addr)),(∀x∈names,x.2=.free->∃c,env.cells.lookup x.1=some c) ->
  (∀y c,acc.lookup y=some c->env.cells.lookup y=some c)->(cg env names acc).lookup x=some c->env.cells.lookup x=some c
 | [],acc,_,ha,e=>ha x c e
 | (n,k)::r,acc,h,ha,e=>by
  have hr:∀x∈r,x.2=.free->∃c,env.cells.lookup x.1=some c:=fun x hx=>h x (Xb _ hx);by_cases hk:k=.free
  ·obtain⟨c',hc⟩:=h (n,k) Zc hk;have hc':env.cells.lookup n=some c':=hc;have q:cg env ((n,k)::r) acc=cg env r ((n,c')::acc):=by
    show(if k=.free then _ else _)=_;rw[if_pos hk,hc'];rfl
   rw[q]at e;refine fW r _ hr (fun y d hy=>?_) e;rw[cJ]at hy;by_cases hyn:(y == n)=true
   ·rw[if_pos hyn]at hy;have:y=n:=by simpa using hyn
    rw[this,hc',hy]
   ·rw[if_neg hyn]at hy;exact ha y d hy
  ·have q:cg env ((n,k)::r) acc=cg env r acc:=by
    show(if k=.free then _ else _)=_;rw[if_neg hk]
   rw[q]at e;exact fW r _ hr ha e
theorem jO{env:Env}{x:Str}{c:Addr}(hx:env.cells.lookup x=some c):∀(names:List (Str×NameKind))(acc:List (Str×Addr)),(acc.lookup x=some c∨(x,NameKind.free)∈names)->(cg env names acc).lookup x=some c
 | [],acc,h=>by
  rcases h with h|h
  ·exact h
  ·cases h
 | (n,k)::r,acc,h=>by
  by_cases hk:k=.free
  ·have q:cg env ((n,k)::r) acc=cg env r ((n,(env.cells.lookup n).getD 0)::acc):=by
    show(if k=.free then _ else _)=_;rw[if_pos hk]
   rw[q];refine jO hx r _ ?_;by_cases hxn:(x == n)=true
   ·left;have e:x=n:=by simpa using hxn
    rw[cJ,if_pos hxn,← e,hx];rfl
   ·rcases h with h|h
    ·left;rw[cJ,if_neg hxn];exact h
    ·right;rcases Ze.mp h with h|h
     ·cases h;exact absurd (by simp) hxn
     ·exact h
  ·have q:cg env ((n,k)::r) acc=cg env r acc:=by
    show(if k=.free then _ else _)=_;rw[if_neg hk]
   rw[q];refine jO hx r _ ?_;rcases h with h|h
   ·exact .inl h
   ·rcases Ze.mp h with h|h
    ·cases h;exact absurd rfl hk
    ·exact .inr h
theorem fA{env:Env}{x:Str}:∀(names:List (Str×NameKind)),
  ((names.map fun(n,k)=>if (k == NameKind.free&&env.scope.kind == .function&&env.kindOf n == some .cell) then(n,NameKind.cell) else(n,k)).lookup x=none/\names.lookup x=none) ∨
  ∃k k',names.lookup x=some k/\(names.map fun(n,k)=>if (k == NameKind.free&&env.scope.kind == .function&&env.kindOf n == some .cell) then(n,NameKind.cell) else(n,k)).lookup x=some k'/\(k'=k∨(k=.free/\k'=.cell))
 | []=>.inl ⟨rfl,rfl⟩
 | (n,k)::r=>by
  have ih:=@fA env x r;show(List.lookup x ((if (k == NameKind.free&&env.scope.kind == .function&&env.kindOf n == some .cell)=true then(n,NameKind.cell) else(n,k))::_)=none/\_)∨∃k' k'',_/\List.lookup x ((if (k == NameKind.free&&env.scope.kind == .function&&env.kindOf n == some .cell)=true then(n,NameKind.cell) else(n,k))::_)=_/\_;by_cases hc:(k == NameKind.free&&env.scope.kind == .function&&env.kindOf n == some .cell)=true
  ·rw[if_pos hc,cJ,cJ];have hk:k=.free:=by
    simp only[Yi]at hc;simpa using hc.1.1
   by_cases hx:(x == n)=true
   ·rw[if_pos hx,if_pos hx];exact .inr ⟨k,.cell,rfl,rfl,.inr ⟨hk,rfl⟩⟩
   ·rw[if_neg hx,if_neg hx];exact ih
  ·rw[if_neg hc,cJ,cJ];by_cases hx:(x == n)=true
   ·rw[if_pos hx,if_pos hx];exact .inr ⟨k,k,rfl,rfl,.inl rfl⟩
   ·rw[if_neg hx,if_neg hx];exact ih
noncomputable abbrev cxC(X:Cx)(N:List Str)(scope:Scope)(C:Addr)(s:Shared)(H:Hp)(fp:List Addr):Cx :=
 { X with N:=N,s₀:=s,H₀:=H,env:=compEnvC scope (cg X.env scope.names []) C X.env,outer:=X.stack,stack:=X.stack,ex:=fp,fn:=fun _=>false,pn:=[],xe:=fun _ _=>False }
structure BlkScope(X:Cx)(N:List Str)(k:Nat)(caps:List Nat)(scope:Scope):Prop where
 kind:scope.kind=.function
 nocell:∀y∈scope.names,y.2≠.cell
 loc:∀y∈scope.names,y.2=.local->scope.names.lookup y.1=some .local
 free:∀y∈scope.names,y.2=.free->(X.env.kindOf y.1=some .cell∨X.env.kindOf y.1=some .free)
 len:N.length=k+caps.length
 cap:∀(j i:Nat),caps[j]?=some i->∃x,N[k+j]?=some x/\X.N[i]?=some x/\scope.names.lookup x=some .free
noncomputable def blk(k:Nat)(caps:List Nat)(σ:St):St:=List.replicate k none++caps.map fun i=>(σ[i]?).getD none
section
variable {X:Cx}{N:List Str}{k:Nat}{caps:List Nat}{scope:Scope}
theorem BlkScope.cells(S:BlkScope X N k caps scope)(ok:X.Ok):∀x∈scope.names,x.2=.free->∃c,X.env.cells.lookup x.1=some c:=fun x hx hk=>ok.has x.1 (S.free x hx hk)
theorem BlkScope.sub(S:BlkScope X N k caps scope)(ok:X.Ok){x:Str}{c:Addr}(e:(cg X.env scope.names []).lookup x=some c):X.env.cells.lookup x=some c :=
 fW _ _ (S.cells ok) (fun y c h=>by cases h) e
theorem BlkScope.has(S:BlkScope X N k caps scope)(ok:X.Ok){x:Str}(h:scope.names.lookup x=some .free):∃c,X.env.cells.lookup x=some c/\(cg X.env scope.names []).lookup x=some c:=by
 have hm:=PySem.mem_of_lookup h;obtain⟨c,hc⟩:=S.cells ok _ hm rfl;exact⟨c,hc,jO hc _ _ (.inr hm)⟩
theorem u4(σ:St):(blk k caps σ).length=k+caps.length:=by unfold blk;simp
theorem u5{σ:St}{i:Nat}{v:V}(h:(blk k caps σ)[i]?=some (some v)):∃j i',i=k+j/\caps[j]?=some i'/\σ[i']?=some (some v):=by
 unfold blk at h;by_cases hi:i<k
 ·rw[Yf (by simpa using hi),Xj]at h
  split at h<;>cases h
 ·rw[Ye (by simpa using hi),Xh,Wc]at h
  refine⟨i-k,?_⟩;cases e:caps[i-k]? with
  | none=>rw[e]at h;cases h
  | some i' =>
   rw[e]at h;refine⟨i',by lia,rfl,?_⟩
   have h':(σ[i']?).getD none=some v:=by simpa using h
   cases q:σ[i']? with
   | none=>rw[q]at h';cases h'
   | some o=>rw[q]at h';have h'':o=some v:=h';rw[h'']
theorem Dy{pins:List (Addr×Obj)}{σ:St}{H:Hp}{s:Shared}{fp:List Addr}{C:Addr}(S:BlkScope X N k caps scope)(I:Inv X pins σ H s)(hf:∀b∈fp,iz X pins H b)(hlt:∀b∈fp,b<s.heap.objs.size)(hC:s.heap.objs.size<=C) :
  (cxC X N scope C s H fp).Ok:=by
 have nfs:∀b∈fp,b∉frs X.stack:=fun b hb z=>by
  rcases Ze.mp (I.stkSub b z) with e|e
  ·exact(hf b hb).2.1 e
  ·exact(hf b hb).2.2.1 e
 refine⟨I.ok.mod,S.kind,I.ok.glob,I.ok.blt,hC,fun x y c h1 h2=>I.ok.inj x y c (S.sub I.ok h1) (S.sub I.ok h2),fun x hx=>?_,fun x c h=>(by cases h),I.ok.hd,I.ok.frames,.inl rfl,fun b hb=>⟨?_,fun x c e=>?_⟩,I.bs,Xe I.ok.bsz I.sz,fun b o e hb=>?_,nfs,I.stack,I.stkFree⟩
 ·have hx':(relabel scope X.env).names.lookup x=some .cell∨(relabel scope X.env).names.lookup x=some .free:=hx;rcases fA (env:=X.env) (x:=x) scope.names with⟨e,_⟩|⟨k1,k2,e1,e2,e3⟩
  ·rcases hx' with z|z<;>(have z':=e.symm.trans z;cases z')
  ·have hk2:k2=.cell∨k2=.free:=by
    rcases hx' with z|z
    ·exact .inl (Option.some.inj (e2.symm.trans z))
    ·exact .inr (Option.some.inj (e2.symm.trans z))
   have hfree:k1=.free:=by
    rcases e3 with z|⟨z,_⟩
    ·rcases hk2 with q|q
     ·exact absurd (z.symm.trans q) (S.nocell _ (PySem.mem_of_lookup e1))
     ·exact z.symm.trans q
    ·exact z
   rw[hfree]at e1;obtain⟨c,_,hc⟩:=S.has I.ok e1;exact⟨c,hc⟩
 ·exact Zg (Zd (hlt b hb) hC)
 ·exact(hf b hb).2.2.2.2.1 x c (S.sub I.ok e)
 ·rcases(hf b hb).2.2.2.1 with z|z
  ·exact I.ok.noex b o e z
  ·exact absurd (Zd (Heap.lt_size (I.ok.bs b o e).1) z) (Wi _)
theorem AK{pins:List (Addr×Obj)}{σ:St}{H:Hp}{s s3:Shared}{fp:List Addr}{C:Addr}{m:Str->Option Value}(S:BlkScope X N k caps scope)(I:Inv X pins σ H s)(hf:∀b∈fp,iz X pins H b)(hlt:∀b∈fp,b<s.heap.objs.size)
  (hC:s.heap.objs.size<=C)(hos:s3.os=s.os)(hg:s3.gens=s.gens)(kp:∀b o,s.heap.get? b=some o->s3.heap.get? b=some o)(hn:s3.heap.Ns C m):Inv (cxC X N scope C s H fp) [] (blk k caps σ) H s3:=by
 refine⟨Dy S I hf hlt hC,hos,by rw[hg];exact I.bare,Un.kept kp,⟨m,hn,fun i x v e1 e2 e3=>?_⟩,fun x c e=>?_,I.hok.fresh hC,fun x c e=>I.freeC x c (S.sub I.ok e),fun p hp=>absurd hp (by simp),I.hok.kept kp,by rw[u4];exact S.len.symm⟩
 ·obtain⟨j,i',rfl,hc,hv⟩:=u5 e2;obtain⟨y,h1,h2,h3⟩:=S.cap j i' hc;have exy:y=x:=Option.some.inj (h1.symm.trans e1);subst exy;obtain⟨c,hc1,hc2⟩:=S.has I.ok h3;obtain⟨m0,hn0,hl0⟩:=I.loc;have hkind:=S.free _ (PySem.mem_of_lookup h3) rfl;obtain⟨u,ru,lu⟩:=hl0 i' y v h2 hv (hkind.elim (fun z=>.inr (.inl z)) (fun z=>.inr (.inr z)));refine⟨u,ru,.inr ⟨?_,c,hc2,?_⟩⟩
  ·rcases fA (env:=X.env) (x:=y) scope.names with⟨_,e⟩|⟨k1,k2,q1,q2,q3⟩
   ·rw[e]at h3;cases h3
   ·have hk1:k1=.free:=Option.some.inj (q1.symm.trans h3);rcases q3 with z|⟨_,z⟩
    ·right;show(relabel scope X.env).names.lookup y=_;exact q2.trans (by rw[z,hk1])
    ·left;show(relabel scope X.env).names.lookup y=_;exact q2.trans (by rw[z])
  ·rcases lu with⟨hk,_⟩|⟨_,c',hc',cell⟩
   ·rcases hkind with z|z<;>(have z':=hk.symm.trans z;cases z')
   ·have:c'=c:=Option.some.inj (hc'.symm.trans hc1);subst this;obtain⟨o,ho,hd⟩:=cell;exact⟨o,kp _ o ho,hd⟩
 ·obtain⟨v,o,ho,hd⟩:=I.cell x c (S.sub I.ok e);exact⟨v,o,kp _ o ho,hd⟩
end
noncomputable def PIf(X:Cx)(ifs:List Expr)(t:TT):Prop :=
 ∀(pins:List (Addr×Obj))(s:Shared)(σ:St)(H:Hp)(Q:Bool->Hp->Prop),Inv X pins σ H s->t σ H Q ->
  wpAny (model X.prog X.w) X.A (forIn ifs true fun c r=>if r=true then do let ok ← isTrue c X.env (eval c X.env);pure (ForInStep.yield ok) else pure (ForInStep.yield r)) (TP X pins σ Q) X.xe s
noncomputable def Ft:TT:=fun _ H Q=>Q true H
theorem dP{X:Cx}:PIf X [] Ft:=fun _ _ _ H _ I h=>wpAny_tests_nil ⟨H,I,h⟩
theorem AL{X:Cx}{c:Expr}{t:TT}(h:PT X c t):PIf X [c] t:=fun pins s σ H Q I hw=>wpAny_tests_one (h pins s σ H Q I hw)
theorem iC{prog:Program}{w:World}{A:Around}{R:Result->Shared->Prop}{s:Shared}{elt target iter:Expr}{ifs:List Expr}{scope:Scope}{pos:Pos}{it acc:Value}{env:Env}(I:Nat->Shared->Prop)
  (turn:∀n s,I n s->wpAny (model prog w) A (pyNext it) (fun r s₁=>match r with
   | none=>R (.ok .next) s₁
   | some v=>wpAny (model prog w) A (letOwnedTupleGo target it v) (fun _ s₀=>wpAny (model prog w) A (assign target env v) (fun _ s₂ =>
     wpAny (model prog w) A (forIn ifs true fun c r=>if r=true then do let ok ← isTrue c env (eval c env);pure (ForInStep.yield ok) else pure (ForInStep.yield r)) (fun ok s₃ =>
      if ok=true then wpAny (model prog w) A (eval elt env) (fun x s₄ =>
       wpAny (model prog w) A (call (.builtin "list.append") [acc,x]) (fun _ s₅=>∃m,m<n/\I m s₅) (fun _ _=>False) s₄) (fun _ _=>False) s₃
      else ∃m,m<n/\I m s₃) (fun _ _=>False) s₂) (fun _ _=>False) s₀) (fun _ _=>False) s₁) (fun _ _=>False) s)
  (n:Nat) (h:I n s) :
  codeAny (model prog w) A (.compLoop (.ListComp elt [⟨target,iter,ifs,0⟩] scope pos) 0 it acc env) R s:=by
 refine codeAny_loop rfl I (fun n s hI=>?_) n h;show wpAny _ A ((compTurn (.ListComp elt [⟨target,iter,ifs,0⟩] scope pos) 0 it acc env).onRaise (fun x=>do noteFrame x env;theTreesLotGoes x)) _ _ s
 refine wpAny_noted ?_;rw[compTurn_list];refine wpAny_bind (wpAny_standAt (wpAny_bind (wpAny_mono (turn n s hI) (fun r s₁ h₁=>?_) fun _ _ h'=>False.elim h')));cases r with
 | none=>exact wpAny_pure h₁
 | some v =>
  refine wpAny_bind (wpAny_mono h₁ (fun _ s₀ h₀=>?_) fun _ _ h'=>False.elim h');refine wpAny_bind (wpAny_mono h₀ (fun _ s₂ h₂=>wpAny_bind (wpAny_mono h₂ (fun ok s₃ h₃=>?_) fun _ _ h'=>False.elim h')) fun _ _ h'=>False.elim h');cases ok with
  | false=>exact wpAny_pure ⟨rfl,h₃⟩
  | true =>
   exact wpAny_bind (wpAny_bind (wpAny_mono h₃ (fun x s₄ h₄=>wpAny_bind (wpAny_mono h₄ (fun _ s₅ h₅=>wpAny_pure (wpAny_pure ⟨rfl,h₅⟩)) fun _ _ h'=>False.elim h')) fun _ _ h'=>False.elim h'))
noncomputable def pB(k:Nat)(caps:List Nat)(wi:TI)(g:TG)(tc:TT)(te:TE):TE:=fun σ H Q=>wi σ H fun J H1=>∃(n:Nat)(W:Nat->List V->Hp->Prop),W 0 [] H1 /\
 (∀xs H,W n xs H->J.stop n H/\∀p,H p=none->Q (.ref p) (upd H p (.lst xs))) /\
 ∀i xs H,i<n->W i xs H->J.go i H/\xs.length<sizeLine/\∀x H',J.yld i H x H'->g x (blk k caps σ) H' fun σ2 H2=>tc σ2 H2 fun ok H3 =>
  if ok=true then te σ2 H3 fun y H4=>σ2.drop k=(blk k caps σ).drop k/\W (i+1) (xs++[y]) H4
  else σ2.drop k=(blk k caps σ).drop k/\W (i+1) xs H3
noncomputable abbrev eS(its:List Value)(n:Nat):Obj:={ cls:=.type "list",data:=.seq its.toArray n }
noncomputable def Ci(X:Cx)(pins:List (Addr×Obj))(H:Hp)(C:Addr):Prop :=
 H C=none/\C≠X.env.locals/\(C∈X.ex∨X.s₀.heap.objs.size<=C)/\(∀x c,X.env.cells.lookup x=some c->c≠C)/\∀p∈X.pn++pins,p.1≠C
inductive CI(X':Cx)(A:Addr)(σ:St)(tn:Nat->Heap->Prop)(fp:List Addr)(n0:Nat)(W:Nat->List V->Hp->Prop)(n:Nat)(s':Shared):Prop
 | mk (i:Nat) (xs:List V) (its:List Value) (nn:Nat) (H':Hp) (J:Inv X' [(A,eS its nn)] σ H' s') (st:tn i s'.heap) (fr:∀b∈fp,H' b=none) (vs:Vals xs its) (hz:xs.length<=sizeLine) (hn:n=n0-i) (hi:i<=n0) (w:W i xs H')
theorem rK{X:Cx}{elt iter tg:Expr}{ifs:List Expr}{scope:Scope}{pos cpos:Pos}{N:List Str}{k:Nat}{caps:List Nat}{wi:TI}{g:TG}{tc:TT}{te:TE}{use:Option (Value->Sem Unit)}{Q':Value->Shared->Prop}
  {pins:List (Addr×Obj)}{s:Shared}{σ:St}{H:Hp}{Q:VK}(S:BlkScope X N k caps scope)(hc:X.calm=true)(hi:PI X tg iter wi)
  (hg:∀C s H fp,PG (cxC X N scope C s H fp) tg g) (ht:∀C s H fp,PIf (cxC X N scope C s H fp) ifs tc) (he:∀C s H fp,PE (cxC X N scope C s H fp) elt te)
  (hs:∀x,foldedSetIterable iter X.env x=pure x) (I:Inv X pins σ H s) (h:pB k caps wi g tc te σ H Q)
  (fin:∀(D C:Addr)(H4:Hp)(s4:Shared)(m:Str->Option Value),Inv X pins σ H4 s4->s4.heap.Ns C m->Ci X pins H4 C->Q (.ref D) H4->compPost (model X.prog X.w) X.A X.xe use Q' (.ref D) C (.ok .next) s4) :
  wpAny (model X.prog X.w) X.A (comprehension (.ListComp elt [⟨tg,iter,ifs,0⟩] scope pos) scope X.env cpos (newList []) false (eval iter X.env) use) Q' X.xe s:=by
 refine wpAny_comprehension_free rfl hs (kG (S.cells I.ok)) S.kind S.loc ?_;refine thn (hi pins s σ H _ I h) fun v s1 h1=>thn h1 fun itv s2 h2=>?_;obtain⟨it,fp,tn,J,H2,e,I2,T,st2,f2,n0,W,w0,wstop,turn⟩:=h2;subst e;refine wpAny_newObj_type (wpAny_newFunctionEnv S.nocell (by intro y hy;simp at hy) (fun h₁ hns₁ hsb₁=>?_) S.kind)
 dsimp only at hns₁ hsb₁ ⊢;generalize hG:s2.heap.push { cls:=.type "list",dict:=none,data:=.seq ([]:List Value).toArray }=G at hns₁ hsb₁ ⊢;have hCG:G.objs.size=s2.heap.objs.size+1:=by rw[← hG,Heap.size_push]
 have hDC:s2.heap.objs.size≠G.objs.size:=by lia
 have below:∀b,b<s2.heap.objs.size->b≠G.objs.size/\b≠s2.heap.objs.size:=fun b hb=>⟨by lia,by lia⟩
 have old:∀b o,s2.heap.get? b=some o->h₁.get? b=some o:=fun b o e=>hsb₁.extBut b o (below b (Heap.lt_size e)).1 (Heap.get?_push_of_some _ (hG ▸ Heap.get?_push_of_some _ e));have hacc:h₁.get? s2.heap.objs.size=some (eS [] 0):=hsb₁.extBut _ _ hDC (Heap.get?_push_of_some _ (hG ▸ Heap.get?_push_size _ rfl));have hlt:∀b∈fp,b<s2.heap.objs.size:=fun b hb=>by obtain⟨o,ho,_⟩:=T.obj 0 _ st2 b hb;exact Heap.lt_size ho
 have hDf:s2.heap.objs.size∉fp:=fun z=>Wi _ (hlt _ z);have hle:s2.heap.objs.size<=G.objs.size:=by lia
 have hDcell:∀x c,(cg X.env scope.names []).lookup x=some c->c≠s2.heap.objs.size:=fun x c e z=>by
  obtain⟨v,q⟩:=I2.cell x c (S.sub I2.ok e);exact absurd q.lt (by rw[z];exact Wi _)
 have hDfs:s2.heap.objs.size∉frs X.stack:=fun z=>by
  obtain⟨_,o,ho,_⟩:=I2.stack.mem z;exact absurd (Heap.lt_size ho) (Wi _)
 have nfs:∀b∈fp,b∉frs X.stack:=fun b hb z=>by
  rcases Ze.mp (I2.stkSub b z) with e|e
  ·exact(f2 b hb).2.1 e
  ·exact(f2 b hb).2.2.1 e
 have fpk:∀{H':Hp}{its:List Value}{n:Nat},(∀b∈fp,H' b=none)->∀b∈fp,iz (cxC X N scope G.objs.size s2 H2 fp) [(s2.heap.objs.size,eS its n)] H' b:=fun {H' its n} hn b hb =>
  ⟨hn b hb,(below b (hlt b hb)).1,nfs b hb,.inl hb,fun x c e=>(f2 b hb).2.2.2.2.1 x c (S.sub I2.ok e),fun p hp=>by
   have e:p=(s2.heap.objs.size,eS its n):=by simpa using hp
   rw[e];exact Ne.symm (below b (hlt b hb)).2⟩
 have pinD:∀{H':Hp}{s':Shared}{σ':St}{its:List Value}{n:Nat},Inv (cxC X N scope G.objs.size s2 H2 fp) [] σ' H' s'->s'.heap.get? s2.heap.objs.size=some (eS its n)->H' s2.heap.objs.size=none->Inv (cxC X N scope G.objs.size s2 H2 fp) [(s2.heap.objs.size,eS its n)] σ' H' s':=fun {H' s' σ' its n} J e hn =>
  J.pins_of fun p hp=>by
   have q:p=(s2.heap.objs.size,eS its n):=by simpa using hp
   rw[q];exact⟨e,hn,hDC,hDfs,fun v z=>by cases z⟩
 have I3:Inv (cxC X N scope G.objs.size s2 H2 fp) [] (blk k caps σ) H2 { s2 with heap:=h₁,toks:=s2.toks+([]:List (Str×Value)).length }:=AK S I2 f2 hlt hle rfl rfl old hns₁;have loop:codeAny (model X.prog X.w) X.A (.compLoop (.ListComp elt [⟨tg,iter,ifs,0⟩] scope pos) 0 (.ref it) (.ref s2.heap.objs.size) (compEnvC scope (cg X.env scope.names []) G.objs.size X.env))
   (compPost (model X.prog X.w) X.A X.xe use Q' (.ref s2.heap.objs.size) G.objs.size) { s2 with heap:=h₁,toks:=s2.toks+([]:List (Str×Value)).length }:=by
  refine iC (CI (cxC X N scope G.objs.size s2 H2 fp) s2.heap.objs.size (blk k caps σ) tn fp n0 W) ?_ n0
   ⟨0,[],[],0,H2,pinD I3 hacc (I2.hok.fresh (Va _)),T.keep _ _ _ st2 fun b _ o e=>old b o e,fun b hb=>(f2 b hb).1,.nil,Wh _,rfl,Wh _,w0⟩
  rintro n s3 ⟨i,xs,its,nn,H3,J3,st3,fr3,vs3,hz3,hn3,hi3,w3⟩;by_cases hin:i<n0
  rotate_left
  ·have ein:i=n0:=by lia
   subst ein;obtain⟨stop,qn⟩:=wstop xs H3 w3;refine thn (T.done (cxC X N scope G.objs.size s2 H2 fp) rfl rfl rfl hc i _ s3 _ H3 _ J3 (fpk fr3) st3 stop) fun r s4 zz9=>?_;obtain⟨hr,J4⟩:=zz9;subst hr;obtain⟨eD,nD,_⟩:=J4.pin (s2.heap.objs.size,eS its nn) (by simp)
   have eD:s4.heap.get? s2.heap.objs.size=some (eS its nn):=eD;have nD:H3 s2.heap.objs.size=none:=nD;obtain⟨m4,hm4,_⟩:=J4.loc;have U:Un (frs X.stack) fp H2 H3 s2.heap s4.heap:=J4.base;have neC:∀b o,s2.heap.get? b=some o->b≠G.objs.size:=fun b o e=>(below b (Heap.lt_size e)).1;have neD:∀b o,s2.heap.get? b=some o->b≠s2.heap.objs.size:=fun b o e=>(below b (Heap.lt_size e)).2;have H2D:H2 s2.heap.objs.size=none:=I2.hok.fresh (Va _);have HC:H3 G.objs.size=none:=J4.free;refine fin s2.heap.objs.size G.objs.size (upd H3 s2.heap.objs.size (.lst xs)) s4 m4 (I2.call' (s':=s4) (ch:=fp) J4.os ?_ ?_ J4.bare ?_) hm4 ?_ (qn _ nD)
   ·refine⟨fun b o e n hb hx=>U.keep b o e n hb hx,fun b o e n hb hx=>U.slot b o e n hb hx,fun b o e n hx=>?_,fun b o e hx=>U.there b o e hx,fun b ys e=>?_,fun b o u e=>?_,fun b ps e=>?_⟩
    ·rw[aT (neD b o e)];exact U.free b o e n hx
    ·rw[aT (bD e H2D)];exact U.tups b ys e
    ·rw[aT (bD e H2D)];exact U.frzs b o u e
    ·obtain⟨more,q⟩:=U.tbls b ps e;exact⟨more,by rw[aT (bD e H2D)];exact q⟩
   ·intro b u e;by_cases hb:b=s2.heap.objs.size
    ·subst hb;rw[br]at e;cases e;exact⟨hz3,its,nn,vs3,eD⟩
    ·rw[aT hb]at e;exact(J4.hok b u e).stay (fun c v _ q=>q) (fun c q=>by rw[aT (bD q nD)];exact q) fun c ys q=>by rw[aT (bD q nD)];exact q
   ·exact fun b hb=>⟨(f2 b hb).2.2.2.1,(f2 b hb).2.1,(f2 b hb).2.2.2.2.1,(f2 b hb).2.2.2.2.2⟩
   ·refine⟨by rw[aT (Ne.symm hDC)];exact HC,Yk (Zd I2.lt hle),.inr (Xe I2.sz hle),fun x c e z=>?_,fun p hp z=>?_⟩
    ·obtain⟨v,q⟩:=I2.cell x c e;exact absurd (Zd q.lt (by rw[z];exact hle)) (Wi _)
    ·exact absurd (Zd (Heap.lt_size (I2.pin p hp).1) (by rw[z];exact hle)) (Wi _)
  ·obtain⟨go,hz,step⟩:=turn i xs H3 hin w3;refine thn (T.item (cxC X N scope G.objs.size s2 H2 fp) rfl rfl rfl hc i _ s3 _ H3 _ J3 (fpk fr3) st3 go) fun r s4 zz9=>?_;obtain⟨u,hr,h4⟩:=zz9;subst hr;refine thn h4 fun _ s5 zz9=>?_;obtain⟨x,H5,J5,r5,y5,st5,fr5⟩:=zz9;have J5':=J5.pinned (fpk fr5) (T.obj _ _ st5);refine thn (hg _ _ _ _ _ s5 _ H5 x u _ J5' r5 (step x H5 y5)) fun _ s6 zz9=>?_;obtain⟨σ6,H6,J6,q6⟩:=zz9;refine thn (ht _ _ _ _ _ s6 σ6 H6 _ J6 q6) fun ok s7 zz9=>?_;obtain⟨H7,J7,q7⟩:=zz9;have wk:∀{σ8:St}{H8:Hp}{s8:Shared}{pl:List (Addr×Obj)},Inv (cxC X N scope G.objs.size s2 H2 fp) pl σ8 H8 s8->σ8.drop k=(blk k caps σ).drop k->Inv (cxC X N scope G.objs.size s2 H2 fp) pl (blk k caps σ) H8 s8:=fun {σ8 H8 s8 pl} J8 hd =>
    J8.weak (by rw[u4,J8.len];exact S.len.symm) fun j v e=>by
     obtain⟨j',i',rfl,hc',hv'⟩:=u5 e;have e1:((blk k caps σ).drop k)[j']?=some (some v):=by rw[Wf];exact e
     rw[← hd,Wf]at e1;exact e1
   have recs:∀{σ8:St}{H8:Hp}{s8:Shared},Inv (cxC X N scope G.objs.size s2 H2 fp) ([(s2.heap.objs.size,eS its nn)]++nt fp s5.heap) σ8 H8 s8->(∀b∈fp,∀o,s5.heap.get? b=some o->s8.heap.get? b=some o)/\(∀b∈fp,H8 b=none):=fun {σ8 H8 s8} J8 =>
    ⟨fun b hb o e=>(J8.pin (b,o) (Wd _ (Wd _ (gG hb e)))).1,fun b hb=>by
     obtain⟨o,e,d⟩:=T.obj _ _ st5 b hb
     exact(J8.pin (b,o) (Wd _ (Wd _ (gG hb e)))).2.1⟩
   cases ok with
   | false =>
    rw[if_neg (by decide)]at q7 ⊢
    obtain⟨hd,w7⟩:=q7;obtain⟨k1,k2⟩:=recs J7;exact⟨n0-(i+1),by lia,i+1,xs,its,nn,H7,wk J7.unpinned hd,T.keep _ _ _ st5 k1,k2,vs3,hz3,rfl,hin,w7⟩
   | true =>
    rw[if_pos rfl]at q7 ⊢;refine thn (he _ _ _ _ _ s7 σ6 H7 _ J7 q7) fun uy s8 zz9=>?_;obtain⟨y,H8,J8,r8,hd,w8⟩:=zz9;obtain⟨k1,k2⟩:=recs J8;obtain⟨eD,nD,_⟩:=J8.pin (s2.heap.objs.size,eS its nn) (by simp)
    have eD:s8.heap.get? s2.heap.objs.size=some (eS its nn):=eD;have nD:H8 s2.heap.objs.size=none:=nD;have hl3:=vs3.length;refine call_meets F.slot_list_append ⟨_,eD,rfl⟩ F.entry_list_append (F.args_list_append_2 _ _) (PySem.list_append s2.heap.objs.size its.toArray nn uy (by rw[Vb];lia)) ⟨eD,?_⟩
    have q:=PySem.IsL.update eD (fun a:Array Value=>a.push uy);have qe:its.toArray.push uy=(its++[uy]).toArray:=by simp
    rw[qe]at q;have oth:∀b o,b≠s2.heap.objs.size->s8.heap.get? b=some o->(s8.heap.update s2.heap.objs.size (Obj.mapSeq fun a=>a.push uy)).get? b=some o:=fun b o hb e=>(Heap.get?_update_other s8.heap _ (Ne.symm hb)).trans e;have J9:Inv (cxC X N scope G.objs.size s2 H2 fp) [] σ6 H8 { s8 with heap:=s8.heap.update s2.heap.objs.size (Obj.mapSeq fun a=>a.push uy),toks:=s8.toks } :=
     (J8.pins_of (pins':=[]) fun p hp=>absurd hp (by simp)).turned oth nD hDC (.inr (Va _)) hDcell (fun p hp=>absurd hp (by simp))
    refine⟨n0-(i+1),by lia,i+1,xs++[y],its++[uy],_,H8,wk (pinD J9 q nD) hd,T.keep _ _ _ st5 fun b hb o e=>oth b o (fun z=>hDf (z ▸ hb)) (k1 b hb o e),k2,vs3.append (.cons r8 .nil),?_,rfl,hin,w8⟩
    rw[Xa,Qg];lia
 exact codeAny_compStart_list loop (T.self _ 0 _ _ _ (T.keep _ _ _ st2 fun b _ o e=>old b o e) loop)
theorem Inv.aside{X:Cx}{pins:List (Addr×Obj)}{σ:St}{H:Hp}{s:Shared}{C:Addr}{h':Heap}(I:Inv X pins σ H s)(a:Ci X pins H C)(hs:Heap.SameBut C s.heap h'):Inv X pins σ H { s with heap:=h' } :=
 I.turned (t':=s.toks) (fun b o hb e=>hs.extBut b o hb e) a.1 a.2.1 a.2.2.1 a.2.2.2.1 a.2.2.2.2
theorem fO{X:Cx}{elt iter tg:Expr}{ifs:List Expr}{scope:Scope}{pos:Pos}{N:List Str}{k:Nat}{caps:List Nat}{wi:TI}{g:TG}{tc:TT}{te:TE}(S:BlkScope X N k caps scope)(hc:X.calm=true)(hi:PI X tg iter wi)
  (hg:∀C s H fp,PG (cxC X N scope C s H fp) tg g)(ht:∀C s H fp,PIf (cxC X N scope C s H fp) ifs tc)(he:∀C s H fp,PE (cxC X N scope C s H fp) elt te)
  (hs:∀x,foldedSetIterable iter X.env x=pure x:=by intro _;rfl):PE X (.ListComp elt [⟨tg,iter,ifs,0⟩] scope pos) (pB k caps wi g tc te):=by
 intro pins s σ H Q I h;rw[eval_ListComp];exact rK (use:=none) S hc hi hg ht he hs I h fun D C H4 s4 m I4 hm a q=>⟨m,hm,fun h' hs'=>⟨.ref D,H4,I4.aside a hs',rfl,q⟩⟩
set_option tactic.hygienic true in
theorem AM{X:Cx}{elt iter tg:Expr}{ifs:List Expr}{scope:Scope}{pos py spos:Pos}{N:List Str}{k:Nat}{caps:List Nat}{wi:TI}{g:TG}{tc:TT}{te:TE}{y:Str}{i:Nat}(S:BlkScope X N k caps scope)(hc:X.calm=true)(hN:X.N.Nodup)(hi':X.N[i]?=some y)(hy:Loc X.env.scope y)(hi:PI X tg iter wi)
  (hg:∀C s H fp,PG (cxC X N scope C s H fp) tg g)(ht:∀C s H fp,PIf (cxC X N scope C s H fp) ifs tc)(he:∀C s H fp,PE (cxC X N scope C s H fp) elt te)
  (hs:∀x,foldedSetIterable iter X.env x=pure x:=by intro _;rfl) (hsw:swapsWith (.ListComp elt [⟨tg,iter,ifs,0⟩] scope pos) (some (.Name y py)) spos.line X.env=pure true:=by rfl)
  (hf:X.fn y=true∨X.env.scope.names.lookup y=some .local:=by first|exact .inl rfl|exact .inr rfl|assumption) :
  PS X (.Assign [.Name y py] (.ListComp elt [⟨tg,iter,ifs,0⟩] scope pos) spos) (wp (pB k caps wi g tc te) (nr i)):=by
 intro pins s σ H D I h;rw[exec_Assign_Name_used _ _ _ _ hsw];refine wpAny_bind (wpAny_standAt (wpAny_bind ?_));show wpAny _ X.A (do let _ ← comprehension (.ListComp elt [⟨tg,iter,ifs,0⟩] scope pos) scope X.env _ (newList []) false (eval iter X.env) (some (assign (.Name y py) X.env))) _ _ s
 refine wpAny_bind (wpAny_mono (rK (use:=some (assign (.Name y py) X.env)) (Q':=fun _ s'=>SP X pins D .next s') S hc hi hg ht he hs I h ?_) (fun _ s' hq=>wpAny_pure (wpAny_pure hq)) fun _ _ e=>e)
 intro Da C H4 s4 m I4 hm a q;refine wpAny_assign_Name (o8 I4 hN hi' hy (show RelV (.ref Da) (.ref Da) from rfl) (fun s5 I5 zz9=>?_) hf);obtain⟨b,sb,hb⟩:=zz9;have hbC:C≠b:=by
  rcases hb with z|z
  ·rw[z];exact a.2.1
  ·exact fun e=>a.2.2.2.1 _ _ z e.symm
 exact⟨m,hm.sameBut sb hbC,fun h' hs'=>⟨_,H4,I5.aside a hs',q⟩⟩
end L2
namespace L2
open PySem PySem.Spec PyProof.Rows
noncomputable def Its(x:Str):It:=⟨fun i _=>i<x.cps.size,fun i H v H'=>H'=H/\∃c,x.cps[i]?=some c/\v=.str ⟨#[c]⟩,fun i _=>x.cps.size<=i⟩
theorem wF{P:Program}{w:World}{K:PySem.W.Frag}{tg:Expr}(it:Addr)(x:Str)(t:Tok):Turn P w K tg (Its x) [it] it (fun i h=>h.IsStrIter it "str_ascii_iterator" x t i) where
 mem:=by simp
 obj:=fun i h st b hb=>by
  have e:b=it:=by simpa using hb
  subst e;obtain⟨o,e,c,d⟩:=st;exact⟨o,e,fun v z=>by rw[d]at z;cases z⟩
 keep:=fun i h h' st k=>let ⟨o,ho,r⟩:=st;⟨o,k it (by simp) o ho,r⟩
 item:=by
  intro X hP hw hK hc i pins s σ H E I hf st hg;subst hP hw hK;obtain⟨f0,f1,f2,f3,f4,f5⟩:=hf it (by simp)
  have hg':i<x.cps.size:=hg;refine wpAny_pyNext_ascii_item st (c:=x.cps[i]) (by simp[hg']) fun h' st' sb=>?_
  have I1:Inv X pins σ H { s with heap:=h',toks:=s.toks+1 }:=I.turned (fun b o hb e=>sb.extBut b o hb e) f0 f1 f3 f4 f5;obtain⟨o,e,c,d⟩:=id st';exact⟨_,rfl,o9 (s:={ s with heap:=h',toks:=s.toks+1 }) e c d (by decide) ⟨.str ⟨#[x.cps[i]]⟩,H,I1,⟨_,rfl⟩,⟨rfl,_,by simp[hg'],rfl⟩,st',fun b hb=>(hf b hb).1⟩⟩
 done:=by
  intro X hP hw hK hc i pins s σ H E I hf st hg;subst hP hw hK;obtain⟨f0,f1,f2,f3,f4,f5⟩:=hf it (by simp)
  have hg':x.cps.size<=i:=hg;exact wpAny_pyNext_ascii_end (I.ok.hd hc) st (by simp[hg']) fun h' eb=>⟨rfl,I.turned (t':=s.toks) (fun b o hb e=>eb b o hb e) f0 f1 f3 f4 f5⟩
 self:=fun _ _ _ _ _ st h=>wpAny_pyIter_striter_ascii st h
theorem wG{P:Program}{w:World}{K:PySem.W.Frag}{tg:Expr}(it:Addr)(x:Str)(t:Tok):Turn P w K tg (Its x) [it] it (fun i h=>h.IsStrIter it "str_iterator" x t i) where
 mem:=by simp
 obj:=fun i h st b hb=>by
  have e:b=it:=by simpa using hb
  subst e;obtain⟨o,e,c,d⟩:=st;exact⟨o,e,fun v z=>by rw[d]at z;cases z⟩
 keep:=fun i h h' st k=>let ⟨o,ho,r⟩:=st;⟨o,k it (by simp) o ho,r⟩
 item:=by
  intro X hP hw hK hc i pins s σ H E I hf st hg;subst hP hw hK;obtain⟨f0,f1,f2,f3,f4,f5⟩:=hf it (by simp)
  have hg':i<x.cps.size:=hg;refine wpAny_pyNext_wide_item st (c:=x.cps[i]) (by simp[hg']) fun h' st' sb=>?_
  have I1:Inv X pins σ H { s with heap:=h',toks:=s.toks+1 }:=I.turned (fun b o hb e=>sb.extBut b o hb e) f0 f1 f3 f4 f5;obtain⟨o,e,c,d⟩:=id st';exact⟨_,rfl,o9 (s:={ s with heap:=h',toks:=s.toks+1 }) e c d (by decide) ⟨.str ⟨#[x.cps[i]]⟩,H,I1,⟨_,rfl⟩,⟨rfl,_,by simp[hg'],rfl⟩,st',fun b hb=>(hf b hb).1⟩⟩
 done:=by
  intro X hP hw hK hc i pins s σ H E I hf st hg;subst hP hw hK;obtain⟨f0,f1,f2,f3,f4,f5⟩:=hf it (by simp)
  have hg':x.cps.size<=i:=hg;exact wpAny_pyNext_wide_end (I.ok.hd hc) st (by simp[hg']) fun h' eb=>⟨rfl,I.turned (t':=s.toks) (fun b o hb e=>eb b o hb e) f0 f1 f3 f4 f5⟩
 self:=fun _ _ _ _ _ st h=>wpAny_pyIter_striter_wide st h
section
variable {X:Cx}{tg:Expr}
noncomputable def Dz(tl:TE):TI:=fun σ H R=>tl σ H fun x H1=>∃z,x=.str z/\R (Its z) H1
theorem DB{l:Expr}{tl:TE}(hl:PE X l tl):PI X tg l (Dz tl):=by
 intro pins s σ H R I h;refine thn (hl pins s σ H _ I h) fun v s1 zz9=>?_;obtain⟨x,H1,I1,r1,q1⟩:=zz9;obtain⟨z,e,q⟩:=q1;subst e;obtain⟨t,rfl⟩:=r1;have fpk:∀b∈[s1.heap.objs.size],iz X pins H1 b:=fun b hb=>by
  have e:b=s1.heap.objs.size:=by simpa using hb
  subst e;exact I1.fpOk (Va _) (I1.hok.fresh (Va _))
 cases ha:z.cps.all (·<128) with
 | true=>exact wpAny_pyIter_ascii ha ⟨s1.heap.objs.size,[s1.heap.objs.size],_,_,H1,rfl,I1.kept (t':=s1.toks) fun b o e=>Heap.get?_push_of_some _ e,wF _ z t,⟨_,Heap.get?_push_size _ rfl,rfl,rfl⟩,fpk,q⟩
 | false=>exact wpAny_pyIter_wide ha ⟨s1.heap.objs.size,[s1.heap.objs.size],_,_,H1,rfl,I1.kept (t':=s1.toks) fun b o e=>Heap.get?_push_of_some _ e,wG _ z t,⟨_,Heap.get?_push_size _ rfl,rfl,rfl⟩,fpk,q⟩
theorem range_all(bs:List Bool):(List.range bs.length).all (fun i=>bs.getD i true)=bs.all id:=by
 induction bs with
 | nil=>rfl
 | cons b r ih =>
  rw[Qd,List.range_succ_eq_map,List.all_cons,List.all_map,List.all_cons,← ih];rfl
theorem rL(hc:X.calm=true):CallR X (.builtin "all") (fun xs H Q=>∃(p:Addr)(bs:List Bool),xs=[.ref p]/\SqL X.K H p (bs.map V.bl)/\Q (.bl (bs.all id)) H):=by
 intro pins s σ H xs us Q I rv h;obtain⟨p,bs,rfl,hq,q⟩:=h;obtain⟨u,rfl,ru⟩:=vals1 rv;cases ru;obtain⟨its,r,pl,hz⟩:=I.list hq;have hlen:its.length=bs.length:=by have:=r.length;simpa using this.symm
 obtain⟨op,np,ep,cp,dp,sp⟩:=id pl;have hne:p≠s.heap.objs.size:=Zg (Heap.lt_size ep);refine call_all_walk (wpAny_pyIter_list pl.isList ?_);refine⟨s.heap.objs.size,_,_,_,_,_,fun i=>bs.getD i true,rfl,Walks.list (show X.A.in1.handled=none from I.ok.hd hc) s.heap.objs.size p hne its.toArray,⟨⟨_,Heap.get?_push_size _ rfl,rfl,rfl⟩,⟨op,Heap.get?_push_of_some _ ep,cp,np,sp⟩⟩,?_,fun h' tk kp=>?_⟩
 ·intro i v s' Q' E' hv hQ';have hv':its[i]?=some v:=by simpa using hv
  have hi:i<its.length:=(Yb.mp hv').1;have hb:(bs.map V.bl)[i]?=some (V.bl (bs[i]'(by lia))):=by
   rw[Wc,Za (by lia)];rfl
  obtain⟨u',e1,e2⟩:=r.get hb;rw[hv']at e1;cases e1;cases e2;have:bs.getD i true=bs[i]'(by lia):=by rw[Qa,Za (by lia)];rfl
  have hQ2:Q' (bs.getD i true) s':=hQ';rw[this]at hQ2;exact wpAny_truthy_bool hQ2
 ·have e:(List.range its.toArray.size).all (fun i=>bs.getD i true)=bs.all id:=by
   rw[Vb,hlen];exact range_all bs
  rw[e]
  exact⟨.bl (bs.all id),H,I.kept (fun b o e=>kp b o (by
   intro z;have z':b=s.heap.objs.size:=by simpa using z
   exact absurd (Heap.lt_size e) (by rw[z'];exact Wi _)) (Heap.get?_push_of_some _ e)),rfl,q⟩
theorem nB:∀{ys:List Str}{us:List Value},Vals (ys.map V.str) us->StrsAre us ys
 | [],_,r=>by cases r;exact .nil
 | y::ys,_,r=>by
  cases r with
  | cons a b =>
   obtain⟨t,rfl⟩:=a;exact .cons y t (nB b)
theorem AN:MtR X "str.join" (fun x vs H Q=>∃(sep:Str)(p:Addr)(ys:List Str),x=.str sep/\vs=[.ref p]/\SqL X.K H p (ys.map V.str)/\(ys.map (·.length)).sum+ys.length*sep.length<=16777216/\Q (.str (Txt.join sep ys)) H):=by
 intro pins s σ H x vs v us Q I rx rv h;obtain⟨sep,p,ys,rfl,rfl,hq,hz,q⟩:=h;obtain⟨t,rfl⟩:=rx;obtain⟨u,rfl,ru⟩:=vals1 rv;cases ru;obtain⟨its,r,pl,_⟩:=I.list hq;exact join_list pl.isList (nB (by simpa using r)) hz fun t' k=>⟨.str _,H,I.tok k,⟨t',rfl⟩,q⟩
noncomputable def sgn(x:Str):List V:=x.cps.toList.map fun c=>.str ⟨#[c]⟩
theorem rM{x:Str}{acc:Array Value}(h:ItemsOf (SignAt x) acc x.cps.size):Vals (sgn x) acc.toList:=by
 obtain⟨h1,h2⟩:=h;have gen:∀(cs:List Nat)(us:List Value),us.length=cs.length->(∀(j:Nat) v,us[j]?=some v->∃c u,cs[j]?=some c/\v=Value.str ⟨#[c]⟩ u)->Vals (cs.map fun c=>V.str ⟨#[c]⟩) us:=by
  intro cs;induction cs with
  | nil=>intro us hl _;cases us with
   | nil=>exact .nil
   | cons _ _=>cases hl
  | cons c cs ih =>
   intro us hl hu;cases us with
   | nil=>cases hl
   | cons u us =>
    obtain⟨c',tk,e1,e2⟩:=hu 0 u rfl;have:c=c':=by simpa using e1
    subst this;subst e2;refine .cons ⟨tk,rfl⟩ (ih us (by simpa using hl) fun j v e=>?_)
    have:=hu (j+1) v (by simpa using e)
    simpa using this
 refine gen x.cps.toList acc.toList (by simp[h1]) fun j v e=>?_
 obtain⟨c,u,e1,e2⟩:=h2 j v (by simpa using e)
 exact⟨c,u,by simpa using e1,e2⟩
theorem u6(x:Str):(sgn x).length=x.cps.size:=by simp[sgn]
theorem nC(hc:X.calm=true):CallR X (.type "list") (fun xs H Q=>∃z:Str,xs=[.str z]/\z.cps.size<=sizeLine/\∀l,H l=none->Q (.ref l) (upd H l (.lst (sgn z)))):=by
 intro pins s σ H xs us Q I rv h;obtain⟨z,rfl,hz,q⟩:=h;obtain⟨u,rfl,ru⟩:=vals1 rv;obtain⟨t,rfl⟩:=ru;refine call_list_str (I.ok.hd hc) z t (fun h' tk acc' c' kp hS hi=>?_) hz;refine⟨.ref s.heap.objs.size,upd H s.heap.objs.size (.lst (sgn z)),I.laid kp (Va _) ⟨by rw[u6];exact hz,acc'.toList,c',rM hi,by simpa using hS⟩,rfl,q _ (I.hok.fresh (Va _))⟩
theorem ObjOk.there{P:Program}{w:World}{H:Hp}{h:Heap}{a:Addr}{o:HO}(x:ObjOk P w H h a o):∃ob,h.get? a=some ob:=by
 cases o with
 | lst xs=>obtain⟨_,_,_,_,e⟩:=x;exact⟨_,e⟩
 | tup xs=>obtain⟨_,_,_,o,e,_⟩:=x;exact⟨_,e⟩
 | dK kvs=>obtain⟨_,_,_,_,o,_,_,e,_⟩:=x;exact⟨_,e⟩
 | dT ep kvs=>obtain⟨_,_,_,_,_,o,_,e,_⟩:=x;exact⟨_,e⟩
 | set S n=>obtain⟨o,_,_,_,e,_⟩:=x;exact⟨_,e⟩
 | ins C dx fs=>obtain⟨_,_,_,e,_⟩:=x;exact⟨_,e⟩
 | own y=>exact x
 | xd fs=>obtain⟨_,⟨_,_,_,e,_⟩,_⟩:=x;exact⟨_,e⟩
 | rng lo hi=>obtain⟨_,_,_,e⟩:=x;exact⟨_,e⟩
 | frz ob u=>obtain⟨e,_⟩:=x;exact⟨_,e⟩
 | tbl ps=>exact⟨_,x⟩
 | met f y=>exact⟨_,x⟩
 | ext φ=>obtain⟨_,e,_⟩:=x;exact e
theorem Inv.laid2{pins:List (Addr×Obj)}{σ:St}{H:Hp}{s:Shared}{h':Heap}{a:Addr}{o:HO}{t':Nat}(I:Inv X pins σ H s)(k:∀b u,s.heap.get? b=some u->h'.get? b=some u)(hne:∀b u,s.heap.get? b=some u->b≠a)(hn:H a=none)(new:ObjOk X.prog X.w (upd H a o) h' a o) :
  Inv X pins σ (upd H a o) { s with heap:=h',toks:=t' }:=by
 refine I.un ⟨fun b u e _ _ _=>k b u e,fun b u e _ _ _=>⟨u.slots,k b u e⟩,fun b u e n _=>by rw[aT (hne b u e)];exact n,fun b u e _=>⟨u,k b u e⟩,fun b xs e=>by rw[aT (bD e hn)];exact e,fun b u v e=>by rw[aT (bD e hn)];exact e,fun b ps e=>⟨#[],by rw[aT (bD e hn),e];simp⟩⟩ ?_
 intro b u e;by_cases hb:b=a
 ·subst hb;rw[br]at e;cases e;exact new
 ·rw[aT hb]at e;exact(I.hok b u e).stay (fun c v _ q=>k c v q) (fun c q=>by rw[aT (bD q hn)];exact q) fun c xs q=>by rw[aT (bD q hn)];exact q
theorem mw(hc:X.calm=true):CallR X (.type "tuple") (fun xs H Q=>∃z:Str,xs=[.str z]/\z.cps.size<=sizeLine/\∀l,H l=none->Q (.ref l) (upd H l (.tup (sgn z)))):=by
 intro pins s σ H xs us Q I rv h;obtain⟨z,rfl,hz,q⟩:=h;obtain⟨u,rfl,ru⟩:=vals1 rv;obtain⟨t,rfl⟩:=ru;refine call_tuple_str (I.ok.hd hc) z t (fun h' tk acc kp hi=>?_) hz;have hne:∀b u,s.heap.get? b=some u->b≠h'.objs.size:=fun b u e z=>absurd (Heap.lt_size (kp b u e)) (by rw[z];exact Wi _)
 have hn:H h'.objs.size=none:=by
  cases e:H h'.objs.size with
  | none=>rfl
  | some o =>
   obtain⟨ob,eo⟩:=(I.hok _ _ e).there;exact absurd rfl (hne _ _ eo)
 refine⟨.ref h'.objs.size,upd H h'.objs.size (.tup (sgn z)),I.laid2 (fun b u e=>Heap.get?_push_of_some _ (kp b u e)) hne hn ⟨by rw[u6];exact hz,acc.toList,rM hi,⟨_,Heap.get?_push_size _ rfl,rfl,0,by simp⟩⟩,rfl,q _ hn⟩
theorem DC:SlR X (fun x lo hi H Q=>∃z:Str,x=.str z/\z.length<=sizeLine/\Q (.str (Txt.slice z lo hi)) H):=by
 intro pins s σ H x v vl vu lo hi sl Q I rx hs pl pu h;obtain⟨z,rfl,hz,q⟩:=h;obtain⟨t,rfl⟩:=rx;refine⟨"str",_,F.slot_str_getitem.lookup,typeIs_str _ _ _,?_⟩;have fin:∀(o p:Option Int),lo=o->hi=p->∀t' k,EP X pins σ Q (.str (Txt.slice z o p) t') { s with toks:=k }:=fun o p e1 e2 t' k=>⟨.str _,H,I.tok k,⟨t',rfl⟩,by rw[← e1,← e2];exact q⟩
 cases pl with
 | none =>
  cases pu with
  | none=>exact wpAny_getItem_str_slice (l:=none) (u:=none) (st:=none) hs rfl (post_val_or_str ⟨Xe (Txt.slice_le z _ _) hz,fun t' k=>fin _ _ rfl rfl t' k⟩)
  | int j uj=>exact wpAny_getItem_str_slice (l:=none) (u:=some (j,uj)) (st:=none) hs rfl (post_val_or_str ⟨Xe (Txt.slice_le z _ _) hz,fun t' k=>fin _ _ rfl rfl t' k⟩)
 | int i ui =>
  cases pu with
  | none=>exact wpAny_getItem_str_slice (l:=some (i,ui)) (u:=none) (st:=none) hs rfl (post_val_or_str ⟨Xe (Txt.slice_le z _ _) hz,fun t' k=>fin _ _ rfl rfl t' k⟩)
  | int j uj=>exact wpAny_getItem_str_slice (l:=some (i,ui)) (u:=some (j,uj)) (st:=none) hs rfl (post_val_or_str ⟨Xe (Txt.slice_le z _ _) hz,fun t' k=>fin _ _ rfl rfl t' k⟩)
end
end L2
namespace L2
open PySem PySem.Spec PyProof.Rows
structure Cal(P:Program)(w:World)(K:PySem.W.Frag)(mg:Str->Option Value)(base:Heap)(x:Str)(k:Nat)(ps:List Str)(sp:Sp):Prop where
 ex:∃f fd,FnOk P w K mg base CX0 k f fd ps sp/\mg x=some (.ref f)/\PySem.W.keepIn K (.ref f)=true/\Binds K fd ps []
noncomputable def wH(sp:Sp)(t:TA):TE:=fun σ H Q=>t σ H fun vs H1=>sp vs H1 Q E0
section
variable {X:Cx}
theorem aF{x:Str}{k k':Nat}{ps:List Str}{sp:Sp}{e:Expr}{es:List Expr}{t:TA}{p pos:Pos}(C:Cal X.prog X.w X.K X.mg X.base x k ps sp)(hr:Room k' X.A)(hg:Gl X x)(ha:PA X (e::es) t)(hk:k<=k':=by decide)
  (hdb:(x == ("__debug__":Str))=false:=by decide) (he:starEach (e::es) X.env=(false,eval e X.env)::starEach es X.env:=by rfl) (hpl:(backTo pos (starEach es X.env)).any (·.1)=false:=by rfl) :
  PE X (.Call (.Name x p) (e::es) [] pos) (wH sp t):=by
 obtain⟨f,fd,F,hm,hkp,hb⟩:=C.ex;intro pins s σ H Q I h;refine AD F (hr.mono hk) hg hm hkp hb .nil Fr ha hdb he hpl pins s σ H Q I ?_;have e0:wH sp t=xH sp [] E0 t:=by
  funext σ H Q
  unfold wH xH;simp only[Ve]
 rw[e0]at h;exact h
noncomputable def tW:Expr->Bool
 | .Starred ..=>false
 | _=>true
theorem pC{e:Expr}{es:List Expr}{env:Env}(h:tW e=true):starEach (e::es) env=(false,eval e env)::starEach es env:=by
 cases e<;>first|rfl|cases h
theorem aw{e:Expr}{es:List Expr}{te:TE}{t:TA}(ha:PE X e te)(hr:PA X es t)(h:tW e=true:=by rfl):PA X (e::es) (kz te t):=kB ha hr (pC h)
noncomputable def strsOf:List Expr->Option (List Str)
 | []=>some []
 | .Constant (.str x) _ _::r=>(strsOf r).map (x::·)
 | _=>none
noncomputable def Cj(xs:List Str):TA:=fun _ H Q=>Q (xs.map V.str) H
theorem qo:∀{es:List Expr}{xs:List Str},strsOf es=some xs->PA X es (Cj xs)
 | [],xs,h=>by
  have e:xs=[]:=(Option.some.inj h).symm;subst e;exact fun pos pins s σ H Q I q=>ag pos pins s σ H Q I q
 | e::r,xs,h=>by
  cases e with
  | Constant c j p =>
   cases c with
   | str x =>
    have h':(strsOf r).map (x::·)=some xs:=h;obtain⟨ys,h1,h2⟩:=Xd.mp h';subst h2;intro pos pins s σ H Q I q;exact kB (bT (x:=x)) (qo h1) (pC rfl) pos pins s σ H Q I q
   | _=>cases h
  | _=>cases h
theorem bP(i:Nat){e:Expr}{te:TE}{x:Str}{pos' pos:Pos}(hN:X.N.Nodup)(he:PE X e te)(hi:X.N[i]?=some x:=by rfl)(hx:Loc X.env.scope x:=by first|exact Or.inl rfl|exact Or.inr rfl)(hf:X.fn x=true∨X.env.scope.names.lookup x=some .local:=by first|exact .inl rfl|exact .inr rfl|assumption)
  (hs:swapsWithSole [.Name x pos'] e pos.line X.env=pure false:=by rfl) (hw:swappedStores [.Name x pos'] e X.env=pure none:=by rfl) (h1:(assignEach [.Name x pos'] X.env).map (·.2)=[assign (.Name x pos') X.env]:=by rfl) :
  PS X (.Assign [.Name x pos'] e pos) (wp te (nr i)):=fV he (uO hN hi hx hf) hs hw h1
theorem cQ(i:Nat){x:Str}{pos:Pos}(hN:X.N.Nodup)(hi:X.N[i]?=some x:=by rfl)(hx:Loc X.env.scope x:=by first|exact Or.inl rfl|exact Or.inr rfl)(hf:X.fn x=true∨X.env.scope.names.lookup x=some .local:=by first|exact .inl rfl|exact .inr rfl|assumption):PG X (.Name x pos) (nr i):=uO hN hi hx hf
theorem qp(i:Nat){elt iter tg:Expr}{ifs:List Expr}{scope:Scope}{pos py spos:Pos}{N:List Str}{k:Nat}{caps:List Nat}{wi:TI}{g:TG}{tc:TT}{te:TE}{y:Str}(S:BlkScope X N k caps scope)(hc:X.calm=true)(hN:X.N.Nodup)(hi:PI X tg iter wi)
  (hg:∀C s H fp,PG (cxC X N scope C s H fp) tg g)(ht:∀C s H fp,PIf (cxC X N scope C s H fp) ifs tc)(he:∀C s H fp,PE (cxC X N scope C s H fp) elt te)
  (hi':X.N[i]?=some y:=by rfl) (hy:Loc X.env.scope y:=by first|exact Or.inl rfl|exact Or.inr rfl)
  (hs:∀x,foldedSetIterable iter X.env x=pure x:=by intro _;rfl) (hsw:swapsWith (.ListComp elt [⟨tg,iter,ifs,0⟩] scope pos) (some (.Name y py)) spos.line X.env=pure true:=by rfl)
  (hf:X.fn y=true∨X.env.scope.names.lookup y=some .local:=by first|exact .inl rfl|exact .inr rfl|assumption) :
  PS X (.Assign [.Name y py] (.ListComp elt [⟨tg,iter,ifs,0⟩] scope pos) spos) (wp (pB k caps wi g tc te) (nr i)):=AM S hc hN hi' hy hi hg ht he hs hsw hf
end
theorem gJ:bootBuiltins "list"=some (.type "list"):=by decide +kernel
theorem aW:bootBuiltins "tuple"=some (.type "tuple"):=by decide +kernel
theorem lE:bootBuiltins "str"=some (.type "str"):=by decide +kernel
theorem pD:bootBuiltins "int"=some (.type "int"):=by decide +kernel
theorem gK:bootBuiltins "bool"=some (.type "bool"):=by decide +kernel
theorem DD{K:PySem.W.Frag}{T S:String}{b:Bool}(h:(if (Value.type T == Value.type S)=true then some true else if PySem.W.kitMeta S=true then(fastBuiltinMro T).map (·.contains (Value.type S)) else none)=some b):PySem.W.kitOne K (.type T) (.type S)=some b:=h
theorem boot_isinstance:bootBuiltins "isinstance"=some (.builtin "isinstance"):=by decide +kernel
theorem boot_all:bootBuiltins "all"=some (.builtin "all"):=by decide +kernel
noncomputable def Ck(osc:Scope)(ON N:List Str)(k:Nat)(caps:List Nat)(scope:Scope):Bool :=
 decide (scope.kind=.function)&&scope.names.all (fun y=>decide (y.2≠.cell))&&scope.names.all (fun y=>decide (y.2=.local->scope.names.lookup y.1=some .local)) &&
 scope.names.all (fun y=>decide (y.2=.free->(osc.names.lookup y.1=some .cell∨osc.names.lookup y.1=some .free)))&&decide (N.length=k+caps.length) &&
 (List.range caps.length).all fun j=>match caps[j]?,N[k+j]? with
  | some i,some x=>decide (ON[i]?=some x)&&decide (scope.names.lookup x=some .free)
  | _,_=>false
theorem eT{X:Cx}{osc:Scope}{ON N:List Str}{k:Nat}{caps:List Nat}{scope:Scope}(h:Ck osc ON N k caps scope=true)(ho:X.env.scope=osc)(hN:X.N=ON):BlkScope X N k caps scope:=by
 unfold Ck at h;simp only[Yi,decide_eq_true_eq,Ql]at h;obtain⟨⟨⟨⟨⟨h1,h2⟩,h3⟩,h4⟩,h5⟩,h6⟩:=h;refine⟨h1,h2,h3,fun y hy hf=>?_,h5,fun j i hj=>?_⟩
 ·show X.env.scope.names.lookup y.1=_∨X.env.scope.names.lookup y.1=_;rw[ho];exact h4 y hy hf
 ·have hlt:j<caps.length:=(Yb.mp hj).1;have q:=h6 j (Zm.mpr hlt);rw[hj]at q;cases e:N[k+j]? with
  | none=>rw[e]at q;cases q
  | some x =>
   rw[e]at q;have q':(decide (ON[i]?=some x)&&decide (scope.names.lookup x=some .free))=true:=q;simp only[Yi,decide_eq_true_eq]at q';exact⟨x,rfl,by rw[hN];exact q'.1,q'.2⟩
theorem bj{H:Hp}{p:Addr}(h:H p=none)(o:HO):Same H (upd H p o):=fun b u q=>by rw[aT (bD q h)];exact q
theorem Fu{α:Type}{x:α}{r:List α}:atI (x::r) 0=some x:=jf (j:=0) rfl
theorem tX{α:Type}{xs:List α}{i:Int}(h0:0<=i)(h1:i<xs.length):∃v,atI xs i=some v/\v∈xs/\xs[i.toNat]?=some v:=by
 have hk:i.toNat<xs.length:=by lia
 have ek:i=((i.toNat:Nat):Int):=by lia
 refine⟨xs[i.toNat],?_,List.getElem_mem hk,Za hk⟩;have q:atI xs ((i.toNat:Nat):Int)=some xs[i.toNat]:=jf (Za hk);rw[← ek]at q;exact q
end L2
namespace L2
open PySem PySem.Spec PyProof.Rows
section
variable {X:Cx}
theorem oR:MtR X "str.startswith" (fun x vs H Q=>∃(a b:Str),x=.str a/\vs=[.str b]/\Q (.bl (Txt.startswith a b)) H):=by
 intro pins s σ H x vs v us Q I rx rv h;obtain⟨a,b,rfl,rfl,q⟩:=h;obtain⟨t,rfl⟩:=rx;obtain⟨u,rfl,ru⟩:=vals1 rv;obtain⟨t',rfl⟩:=ru;exact SC.startswith ⟨.bl _,H,I,rfl,q⟩
theorem mulOk_of{x:Str}{n:Int}(h0:0<=n)(hn:n<=1000)(hx:x.length<=1000):MulOk x n:=by
 have hx':(x.length:Int)<=1000:=by lia
 have hm:(x.length:Int)*n<=1000*1000:=Int.mul_le_mul hx' hn h0 (by decide)
 have hm2:x.length*n.toNat<=1000*1000:=Nat.mul_le_mul hx (by lia)
 refine⟨?_,fun h1 _=>?_,fun h1 h2=>?_⟩
 ·rw[decide_eq_false (by lia),decide_eq_false (by lia)];rfl
 ·have:(x.length:Int)<=(2 ^ 63-1) / n:=(Int.le_ediv_iff_mul_le (by lia)).mpr (Int.le_trans hm (by decide))
  lia
 ·unfold Builtin.Str.tooLong;have:=wE (Va 1000);exact decide_eq_false (by rw[sizeLine_eq];lia)
theorem tY:OpR X (binaryOp .Mult) (fun x y H Q=>∃(a:Str)(n:Int),x=.str a/\y=.int n/\MulOk a n/\Q (.str (Txt.mul a n)) H):=by
 intro pins s σ H x y v u Q I rx ry h;obtain⟨a,n,rfl,rfl,hok,q⟩:=h;obtain⟨t,rfl⟩:=rx;obtain⟨t',rfl⟩:=ry;exact SB.mul hok fun t2 k=>⟨.str _,H,I.tok k,⟨t2,rfl⟩,q⟩
theorem DE(hu:X.A.units<cLine):OpR X (compareOp .NotEq) (fun x y H Q=>∃(a b:Addr)(xs:List V),x=.ref a/\y=.ref b/\SqL X.K H a xs/\SqL X.K H b []/\Q (.bl (!xs.isEmpty)) H):=by
 intro pins s σ H x y v u Q I rx ry h;obtain⟨a,b,xs,rfl,rfl,ha,hb,q⟩:=h;cases rx;cases ry;obtain⟨its,r,pl,_⟩:=I.list ha;obtain⟨its2,r2,pl2,_⟩:=I.list hb;cases r2;cases xs with
 | nil =>
  cases r;exact SeqAt.RcNeAt.lists (e:=fun _=>true) pl.isList pl2.isList rfl hu (fun j h1 _=>absurd h1 (by simp)) _ _ _ _ ⟨.bl _,H,I,rfl,q⟩
 | cons x1 xr =>
  cases r;exact SeqAt.RcNeAt.lists_lengths pl.isList pl2.isList (by simp) hu _ _ _ _ ⟨.bl _,H,I,rfl,q⟩
end
theorem aD{X:Cx}{K:PySem.W.Frag}(h:X.K=K):IxR X (rIx K):=h ▸ Ds
theorem kH{α:Type}[DecidableEq α]:∀(l m:List α),l.Nodup->(∀x∈l,x∈m)->l.length<=m.length
 | [],_,_,_=>Wh _
 | a::l,m,h,hs=>by
  have hm:a∈m:=hs a Zc;have h1:=Vk.mp h;have ih:=kH l (m.erase a) h1.2 fun x hx=>by
   have hne:x≠a:=fun e=>h1.1 (e ▸ hx);exact(List.mem_erase_of_ne hne).mpr (hs x (Xb _ hx))
  have hl:=List.length_erase_of_mem hm;have hp:0<m.length:=List.length_pos_of_mem hm;rw[Qd];lia
end L2
namespace VF
open PySem L2
noncomputable abbrev AS:=Addr->Prop
theorem bsP{α β γ:Type}{o:Option (α×β)}{f:α×β->Option γ}{z:γ}{P:Prop}(h:o.bind f=some z)(k:∀a b,o=some (a,b)->f (a,b)=some z->P):P:=by
 obtain⟨⟨a,b⟩,e,h⟩:=Option.bind_eq_some_iff.mp h;exact k a b e h
theorem bsO{α γ:Type}{o:Option α}{f:α->Option γ}{z:γ}{P:Prop}(h:o.bind f=some z)(k:∀a,o=some a->f a=some z->P):P:=by
 obtain⟨a,e,h⟩:=Option.bind_eq_some_iff.mp h;exact k a e h
theorem aR{α:Type}{c:Prop}{i:Decidable c}{x:Option α}{z:α}(h:(if c then x else none)=some z):c/\x=some z:=by
 by_cases q:c
 ·rw[if_pos q]at h;exact⟨q,h⟩
 ·rw[if_neg q]at h;cases h
noncomputable abbrev U(O Z:AS):AS:=fun p=>O p∨Z p
noncomputable abbrev ins(p:Addr)(O:AS):AS:=fun b=>b=p∨O b
inductive D where
 | non|bl (b:Bool)|int (i:Int)|str (x:Str)|tup (ds:List D)|lst (ds:List D)|fl (ds:List D)|ty (n:String)|dk (kvs:List (Key×D))|dt (kvs:List (List Key×D))
noncomputable def TupA(K:PySem.W.Frag)(Y:AS)(H:Hp)(a:Addr)(vs:List V):Prop:=H a=some (.tup vs)/\¬ Y a
noncomputable def LstA(K:PySem.W.Frag)(Y:AS)(H:Hp)(a:Addr)(vs:List V):Prop:=(Rd H a (.lst vs)/\¬ Y a)∨∀H',SqL K H' a vs
theorem TupA.sq{K:PySem.W.Frag}{Y:AS}{H:Hp}{a:Addr}{vs:List V}(h:TupA K Y H a vs):SqT K H a vs:=.inl (.inl h.1)
theorem LstA.sq{K:PySem.W.Frag}{Y:AS}{H:Hp}{a:Addr}{vs:List V}(h:LstA K Y H a vs):SqL K H a vs:=by
 rcases h with h|h
 ·exact .inl h.1
 ·exact h H
noncomputable def KA(Y:AS)(H:Hp)(as:List Addr):Prop:=∀b∈as,¬ Y b/\H b≠none
theorem KA.go{Y Y':AS}{H H':Hp}{as:List Addr}(h:KA Y H as)(k:∀b o,H b=some o->¬ Y b->H' b=some o)(n:∀b,Y' b->Y b∨H b=none):KA Y' H' as:=fun b hb=>by
 obtain⟨h1,h2⟩:=h b hb;refine⟨fun z=>(n b z).elim h1 h2,?_⟩;cases e:H b with
 | none=>exact absurd e h2
 | some o=>rw[k b o e h1];simp
theorem KA.less{Y Y':AS}{H:Hp}{as:List Addr}(h:KA Y H as)(n:∀b,Y' b->Y b):KA Y' H as:=fun b hb=>⟨fun z=>(h b hb).1 (n b z),(h b hb).2⟩
inductive DA(K:PySem.W.Frag)(Y:AS)(H:Hp):V->D->Prop where
 | non:DA K Y H .non .non
 | bl (b:Bool):DA K Y H (.bl b) (.bl b)
 | int (i:Int):DA K Y H (.int i) (.int i)
 | str (x:Str):DA K Y H (.str x) (.str x)
 | tup {a:Addr} {vs:List V} {ds:List D}:TupA K Y H a vs->vs.length=ds.length->(∀(i:Nat) v d,vs[i]?=some v->ds[i]?=some d->DA K Y H v d)->DA K Y H (.ref a) (.tup ds)
 | ty (n:String):DA K Y H (.ty n) (.ty n)
 | lst {a:Addr} {vs:List V} {ds:List D}:¬ Y a->H a=some (.lst vs)->vs.length=ds.length->(∀(i:Nat) v d,vs[i]?=some v->ds[i]?=some d->DA K Y H v d)->DA K Y H (.ref a) (.lst ds)
 | fl {a:Addr} {vs:List V} {ds:List D}:LstA K Y H a vs->vs.length=ds.length->(∀(i:Nat) v d,vs[i]?=some v->ds[i]?=some d->DA K Y H v d)->DA K Y H (.ref a) (.fl ds)
 | dk {a:Addr} {kvs:List (Key×V)} {ds:List (Key×D)}:¬ Y a->H a=some (.dK kvs)->kvs.map (·.1)=ds.map (·.1)->(∀(i:Nat) v d,kvs[i]?=some v->ds[i]?=some d->DA K Y H v.2 d.2)->DA K Y H (.ref a) (.dk ds)
 | dt {a:Addr} {ep:Nat×List Addr} {kvs:List (List Key×V)} {ds:List (List Key×D)}:¬ Y a->KA Y H ep.2->H a=some (.dT ep kvs)->kvs.map (·.1)=ds.map (·.1)->(∀(i:Nat) v d,kvs[i]?=some v->ds[i]?=some d->DA K Y H v.2 d.2)->DA K Y H (.ref a) (.dt ds)
noncomputable def El(K:PySem.W.Frag)(Y:AS)(H:Hp)(vs:List V)(ds:List D):Prop:=vs.length=ds.length/\∀(i:Nat) v d,vs[i]?=some v->ds[i]?=some d->DA K Y H v d
noncomputable def Lv(H:Hp)(p:Addr):Prop:=H p≠none/\∀vs,H p≠some (.tup vs)
theorem Lv.same{H H':Hp}{p:Addr}(h:Lv H p)(s:∀o,H p=some o->H' p=some o):Lv H' p:=by
 cases e:H p with
 | none=>exact absurd e h.1
 | some o =>
  refine⟨by rw[s o e];simp,fun vs z=>h.2 vs ?_⟩
  rw[s o e]at z;rw[e];exact z
structure Ext(O:AS)(H:Hp)(O':AS)(H':Hp):Prop where
 kp:∀b o,H b=some o->¬ O b->H' b=some o
 nw:∀b,O' b->O b∨H b=none
 al:∀b,H b≠none->H' b≠none
 lv:∀b,Lv H b->Lv H' b
section
variable {K:PySem.W.Frag}{Y Y' O O' O1 O2 Z:AS}{H H' H1 H2:Hp}{v:V}{d:D}{vs:List V}{ds:List D}{a p:Addr}
theorem Ext.refl(O:AS)(H:Hp):Ext O H O H:=⟨fun _ _ h _=>h,fun _ h=>.inl h,fun _ h=>h,fun _ h=>h⟩
theorem Ext.trans(a:Ext O H O1 H1)(b:Ext O1 H1 O2 H2):Ext O H O2 H2:=by
 refine⟨fun c o h n=>b.kp c o (a.kp c o h n) fun z=>?_,fun c h=>?_,fun c h=>b.al c (a.al c h),fun c h=>b.lv c (a.lv c h)⟩
 ·rcases a.nw c z with q|q
  ·exact n q
  ·rw[h]at q;cases q
 ·rcases b.nw c h with q|q
  ·exact a.nw c q
  ·right;cases e:H c with
   | none=>rfl
   | some o=>exact absurd q (a.al c (by rw[e];simp))
theorem Same.ext(h:Same H H'):Ext O H O H':=⟨fun b o e _=>h b o e,fun _ z=>.inl z,fun b z=>by
 cases e:H b with
 | none=>exact absurd e z
 | some o=>rw[h b o e];simp,fun b z=>z.same fun o e=>h b o e⟩
theorem Rd.keep{u:HO}(r:Rd H a u)(k:∀o,H a=some o->H' a=some o):Rd H' a u:=by
 rcases r with r|⟨o,r⟩
 ·exact .inl (k _ r)
 ·exact .inr ⟨o,k _ r⟩
theorem Rd.live{u:HO}(r:Rd H a u):H a≠none:=by
 rcases r with r|⟨o,r⟩<;>(rw[r];simp)
theorem TupA.go(h:TupA K Y H a vs)(k:∀b o,H b=some o->¬ Y b->H' b=some o)(n:∀b,Y' b->Y b∨H b=none):TupA K Y' H' a vs:=by
 obtain⟨h1,h2⟩:=h;refine⟨k a _ h1 h2,fun z=>?_⟩;rcases n a z with q|q
 ·exact h2 q
 ·rw[h1]at q;cases q
theorem LstA.go(h:LstA K Y H a vs)(k:∀b o,H b=some o->¬ Y b->H' b=some o)(n:∀b,Y' b->Y b∨H b=none):LstA K Y' H' a vs:=by
 rcases h with⟨h1,h2⟩|h
 ·refine .inl ⟨Rd.keep h1 fun o e=>k a o e h2,fun z=>?_⟩;rcases n a z with q|q
  ·exact h2 q
  ·exact Rd.live h1 q
 ·exact .inr h
theorem DA.go(h:DA K Y H v d)(k:∀b o,H b=some o->¬ Y b->H' b=some o)(n:∀b,Y' b->Y b∨H b=none):DA K Y' H' v d:=by
 have no:∀a u,H a=some u->¬ Y a->¬ Y' a:=fun a u e ny z=>by
  rcases n a z with q|q
  ·exact ny q
  ·rw[e]at q;cases q
 induction h with
 | non=>exact .non
 | bl b=>exact .bl b
 | int i=>exact .int i
 | str x=>exact .str x
 | tup h1 h2 _ ih=>exact .tup (h1.go k n) h2 ih
 | ty n=>exact .ty n
 | lst h0 h1 h2 _ ih=>exact .lst (no _ _ h1 h0) (k _ _ h1 h0) h2 ih
 | fl h1 h2 _ ih=>exact .fl (h1.go k n) h2 ih
 | dk h0 h1 h2 _ ih=>exact .dk (no _ _ h1 h0) (k _ _ h1 h0) h2 ih
 | dt h0 ka h1 h2 _ ih=>exact .dt (no _ _ h1 h0) (ka.go k n) (k _ _ h1 h0) h2 ih
theorem DA.ext(h:DA K (U O Z) H v d)(e:Ext O H O' H'):DA K (U O' Z) H' v d :=
 h.go (fun b o q n=>e.kp b o q fun z=>n (.inl z)) fun b z=>z.elim (fun q=>(e.nw b q).elim (fun x=>.inl (.inl x)) .inr) fun q=>.inl (.inr q)
theorem DA.less(h:DA K Y H v d)(n:∀b,Y' b->Y b):DA K Y' H v d:=h.go (fun _ _ e _=>e) fun b z=>.inl (n b z)
theorem DA.same(h:DA K Y H v d)(s:Same H H'):DA K Y H' v d:=h.go (fun b o e _=>s b o e) fun _ z=>.inl z
theorem DA.away(h:DA K Y H v d)(s:Same H H')(hp:H p=none):DA K (ins p Y) H' v d:=h.go (fun b o e _=>s b o e) fun b z=>z.elim (fun q=>.inr (q ▸ hp)) .inl
theorem El.go(h:El K Y H vs ds)(k:∀b o,H b=some o->¬ Y b->H' b=some o)(n:∀b,Y' b->Y b∨H b=none):El K Y' H' vs ds:=⟨h.1,fun i v d a b=>(h.2 i v d a b).go k n⟩
theorem El.ext(h:El K (U O Z) H vs ds)(e:Ext O H O' H'):El K (U O' Z) H' vs ds:=⟨h.1,fun i v d a b=>(h.2 i v d a b).ext e⟩
theorem El.less(h:El K Y H vs ds)(n:∀b,Y' b->Y b):El K Y' H vs ds:=⟨h.1,fun i v d a b=>(h.2 i v d a b).less n⟩
theorem El.same(h:El K Y H vs ds)(s:Same H H'):El K Y H' vs ds:=⟨h.1,fun i v d a b=>(h.2 i v d a b).same s⟩
theorem El.away(h:El K Y H vs ds)(s:Same H H')(hp:H p=none):El K (ins p Y) H' vs ds:=⟨h.1,fun i v d a b=>(h.2 i v d a b).away s hp⟩
theorem El.nil:El K Y H [] []:=⟨rfl,fun i v d h=>by simp at h⟩
theorem El.cons(h:DA K Y H v d)(r:El K Y H vs ds):El K Y H (v::vs) (d::ds):=by
 refine⟨by simp[r.1],fun i v' d' h1 h2=>?_⟩
 cases i with
 | zero =>
  have e1:v=v':=by simpa using h1
  have e2:d=d':=by simpa using h2
  subst e1 e2;exact h
 | succ i=>exact r.2 i v' d' (by simpa using h1) (by simpa using h2)
theorem El.uncons{vs:List V}{d:D}{ds:List D}(h:El K Y H vs (d::ds)):∃v r,vs=v::r/\DA K Y H v d/\El K Y H r ds:=by
 cases vs with
 | nil=>have:=h.1;simp at this
 | cons v r =>
  refine⟨v,r,rfl,h.2 0 v d rfl rfl,?_,fun i v' d' h1 h2=>h.2 (i+1) v' d' (by simpa using h1) (by simpa using h2)⟩
  have:=h.1;simpa using this
theorem El.unnil{vs:List V}(h:El K Y H vs []):vs=[]:=by
 have:=h.1;simpa using this
theorem El.app{vs ws:List V}{ds es:List D}(h:El K Y H vs ds)(r:El K Y H ws es):El K Y H (vs++ws) (ds++es):=by
 refine⟨by simp[h.1,r.1],fun i v d h1 h2=>?_⟩
 by_cases hi:i<vs.length
 ·rw[Yf hi]at h1;rw[Yf (by rw[← h.1];exact hi)]at h2
  exact h.2 i v d h1 h2
 ·rw[Ye (by lia)]at h1
  rw[Ye (by rw[← h.1];lia),← h.1]at h2
  exact r.2 _ v d h1 h2
theorem El.at(h:El K Y H vs ds){i:Nat}{d:D}(e:ds[i]?=some d):∃v,vs[i]?=some v/\DA K Y H v d:=by
 have hi:i<ds.length:=(Yb.mp e).1;have hv:i<vs.length:=by rw[h.1];exact hi
 exact⟨vs[i],Za hv,h.2 i _ d (Za hv) e⟩
theorem El.one(h:DA K Y H v d):El K Y H [v] [d]:=El.cons h El.nil
theorem El.rev(h:El K Y H vs ds):El K Y H vs.reverse ds.reverse:=by
 refine⟨by simp[h.1],fun i v d h1 h2=>?_⟩
 have hi:i<vs.length:=by
  have:=(Yb.mp h1).1;simpa using this
 rw[List.getElem?_reverse hi]at h1;rw[List.getElem?_reverse (by rw[← h.1];exact hi),← h.1]at h2
 exact h.2 _ v d h1 h2
set_option tactic.hygienic true in
theorem El.take(h:El K Y H vs ds)(n:Nat):El K Y H (vs.take n) (ds.take n):=by
 refine⟨by simp[h.1],fun i v d h1 h2=>?_⟩
 rw[Xn]at h1 h2;split at h1
 ·rename_i q;rw[if_pos q]at h2;exact h.2 i v d h1 h2
 ·cases h1
theorem El.drop(h:El K Y H vs ds)(n:Nat):El K Y H (vs.drop n) (ds.drop n):=by
 refine⟨by simp[h.1],fun i v d h1 h2=>?_⟩
 rw[Wf]at h1 h2;exact h.2 _ v d h1 h2
theorem El.set(h:El K Y H vs ds)(hv:DA K Y H v d)(j:Nat):El K Y H (vs.set j v) (ds.set j d):=by
 refine⟨by simp[h.1],fun i v' d' h1 h2=>?_⟩
 rw[List.getElem?_set]at h1 h2;by_cases e:j=i
 ·rw[if_pos e]at h1 h2;obtain⟨hl,h1⟩:=aR h1;rw[if_pos (by rw[← h.1];exact hl)]at h2
  have e1:v=v':=by simpa using h1
  have e2:d=d':=by simpa using h2
  subst e1 e2;exact hv
 ·rw[if_neg e]at h1 h2;exact h.2 i v' d' h1 h2
set_option tactic.hygienic true in
theorem El.erase(h:El K Y H vs ds)(j:Nat):El K Y H (vs.eraseIdx j) (ds.eraseIdx j):=by
 refine⟨by simp[List.length_eraseIdx,h.1],fun i v d h1 h2=>?_⟩
 rw[List.getElem?_eraseIdx]at h1 h2;split at h1
 ·rename_i q;rw[if_pos q]at h2;exact h.2 _ v d h1 h2
 ·rename_i q;rw[if_neg q]at h2;exact h.2 _ v d h1 h2
noncomputable def OA(K:PySem.W.Frag)(Y:AS)(H:Hp)(p:Addr):D->Prop
 | .lst ds=>∃vs,H p=some (.lst vs)/\El K Y H vs ds
 | .dk ds=>∃kvs,H p=some (.dK kvs)/\kvs.map (·.1)=ds.map (·.1)/\∀(i:Nat) v d,kvs[i]?=some v->ds[i]?=some d->DA K Y H v.2 d.2
 | .dt ds=>∃ep kvs,KA Y H ep.2/\H p=some (.dT ep kvs)/\kvs.map (·.1)=ds.map (·.1)/\∀(i:Nat) v d,kvs[i]?=some v->ds[i]?=some d->DA K Y H v.2 d.2
 | _=>False
theorem OA.live(h:OA K Y H p d):H p≠none:=by
 cases d with
 | lst ds=>obtain⟨vs,e,_⟩:=h;rw[e];simp
 | dk ds=>obtain⟨vs,e,_⟩:=h;rw[e];simp
 | dt ds=>obtain⟨_,vs,_,e,_⟩:=h;rw[e];simp
 | _=>exact h.elim
theorem OA.lv(h:OA K Y H p d):Lv H p:=by
 cases d with
 | lst ds=>obtain⟨vs,e,_⟩:=h;exact⟨by rw[e];simp,fun _ z=>by rw[e]at z;cases z⟩
 | dk ds=>obtain⟨vs,e,_⟩:=h;exact⟨by rw[e];simp,fun _ z=>by rw[e]at z;cases z⟩
 | dt ds=>obtain⟨_,vs,_,e,_⟩:=h;exact⟨by rw[e];simp,fun _ z=>by rw[e]at z;cases z⟩
 | _=>exact h.elim
theorem OA.go(h:OA K Y H p d)(hp:H' p=H p)(k:∀b o,H b=some o->¬ Y b->H' b=some o)(n:∀b,Y' b->Y b∨H b=none):OA K Y' H' p d:=by
 cases d with
 | lst ds=>obtain⟨vs,e,q⟩:=h;exact⟨vs,hp.trans e,q.go k n⟩
 | dk ds=>obtain⟨vs,e,q1,q2⟩:=h;exact⟨vs,hp.trans e,q1,fun i v d a b=>(q2 i v d a b).go k n⟩
 | dt ds=>obtain⟨ep,vs,ka,e,q1,q2⟩:=h;exact⟨ep,vs,ka.go k n,hp.trans e,q1,fun i v d a b=>(q2 i v d a b).go k n⟩
 | _=>exact h.elim
theorem OA.da(h:OA K Y H p d)(hp:¬ Y' p)(n:∀b,Y' b->Y b):DA K Y' H (.ref p) d:=by
 cases d with
 | lst ds=>obtain⟨vs,e,q⟩:=h;exact .lst hp e q.1 (q.less n).2
 | dk ds=>obtain⟨vs,e,q1,q2⟩:=h;exact .dk hp e q1 fun i v d a b=>(q2 i v d a b).less n
 | dt ds=>obtain⟨ep,vs,ka,e,q1,q2⟩:=h;exact .dt hp (ka.less n) e q1 fun i v d a b=>(q2 i v d a b).less n
 | _=>exact h.elim
noncomputable def BA(K:PySem.W.Frag)(Y:AS)(H:Hp)(v:V):D->Prop
 | .non=>v=.non
 | .bl b=>v=.bl b
 | .int i=>v=.int i
 | .str x=>v=.str x
 | .tup ds=>∃a vs,v=.ref a/\TupA K Y H a vs/\El K Y H vs ds
 | .ty n=>v=.ty n
 | .lst ds=>∃a vs,v=.ref a/\H a=some (.lst vs)/\El K Y H vs ds
 | .fl ds=>∃a vs,v=.ref a/\LstA K Y H a vs/\El K Y H vs ds
 | .dk ds=>∃a kvs,v=.ref a/\H a=some (.dK kvs)/\kvs.map (·.1)=ds.map (·.1)/\∀(i:Nat) v d,kvs[i]?=some v->ds[i]?=some d->DA K Y H v.2 d.2
 | .dt ds=>∃a ep kvs,v=.ref a/\KA Y H ep.2/\H a=some (.dT ep kvs)/\kvs.map (·.1)=ds.map (·.1)/\∀(i:Nat) v d,kvs[i]?=some v->ds[i]?=some d->DA K Y H v.2 d.2
theorem DA.ba(h:DA K Y H v d):BA K Y H v d:=by
 cases h with
 | non=>rfl
 | bl b=>rfl
 | int i=>rfl
 | str x=>rfl
 | tup h1 h2 h3=>exact⟨_,_,rfl,h1,h2,h3⟩
 | ty n=>rfl
 | lst h0 h1 h2 h3=>exact⟨_,_,rfl,h1,h2,h3⟩
 | fl h1 h2 h3=>exact⟨_,_,rfl,h1,h2,h3⟩
 | dk h0 h1 h2 h3=>exact⟨_,_,rfl,h1,h2,h3⟩
 | dt h0 ka h1 h2 h3=>exact⟨_,_,_,rfl,ka,h1,h2,h3⟩
theorem OA.ba(h:OA K Y H p d):BA K Y H (.ref p) d:=by
 cases d with
 | lst ds=>obtain⟨vs,e,q⟩:=h;exact⟨p,vs,rfl,e,q⟩
 | dk ds=>obtain⟨vs,e,q1,q2⟩:=h;exact⟨p,vs,rfl,e,q1,q2⟩
 | dt ds=>obtain⟨ep,vs,ka,e,q1,q2⟩:=h;exact⟨p,ep,vs,rfl,ka,e,q1,q2⟩
 | _=>exact h.elim
end
end VF
namespace VF
open PySem L2
inductive Sl where
 | e|v (d:D)|o (d:D)|io (d:D)
noncomputable abbrev En:=List Sl
noncomputable def Sl.get:Sl->Option D
 | .e=>none
 | .v d=>some d
 | .o d=>some d
 | .io d=>some d
noncomputable def Sl.ow:Sl->Option D
 | .o d=>some d
 | .io d=>some d
 | _=>none
noncomputable def Sl.put(y:D):Sl->Sl
 | .io _=>.io y
 | _=>.o y
theorem Sl.put_ow(y:D)(s:Sl):(s.put y).ow=some y:=by cases s<;>rfl
theorem Sl.put_v(y z:D)(s:Sl):s.put y≠.v z:=by cases s<;>(intro e;cases e)
inductive Rs where
 | d (x:D)|f (x:D)|s (i:Nat)
structure ER(K:PySem.W.Frag)(st:En)(σ:St)(H:Hp)(O Z:AS):Prop where
 len:st.length=σ.length
 val:∀(i:Nat) d,st[i]?=some (.v d)->∃v,σ[i]?=some (some v)/\DA K (U O Z) H v d
 own:∀(i:Nat) s d,st[i]?=some s->s.ow=some d->∃p,σ[i]?=some (some (.ref p))/\O p/\OA K (U O Z) H p d
 uni:∀(i j:Nat) s t d d' p,st[i]?=some s->s.ow=some d->st[j]?=some t->t.ow=some d'->σ[i]?=some (some (.ref p))->σ[j]?=some (some (.ref p))->i=j
 dis:∀p,O p->¬ Z p
 liv:∀p,U O Z p->Lv H p
structure Kp(st st':En):Prop where
 len:st'.length=st.length
 has:∀(i:Nat) s,st[i]?=some s->s.get≠none->∃s',st'[i]?=some s'/\s'.get≠none
 io:∀(i:Nat) d,st[i]?=some (.io d)->∃d',st'[i]?=some (.io d')
theorem Kp.refl(st:En):Kp st st:=⟨rfl,fun i s h g=>⟨s,h,g⟩,fun i d h=>⟨d,h⟩⟩
theorem Kp.trans{a b c:En}(x:Kp a b)(y:Kp b c):Kp a c:=by
 refine⟨y.len.trans x.len,fun i s h g=>?_,fun i d h=>?_⟩
 ·obtain⟨s',h',g'⟩:=x.has i s h g;exact y.has i s' h' g'
 ·obtain⟨d',h'⟩:=x.io i d h;exact y.io i d' h'
noncomputable def RVal(K:PySem.W.Frag)(Z:AS)(st:En)(σ:St)(H:Hp)(O:AS)(v:V):Rs->Prop
 | .d x=>DA K (U O Z) H v x
 | .f x=>∃p,v=.ref p/\¬ O p/\¬ Z p/\OA K (ins p (U O Z)) H p x/\ER K st σ H (ins p O) Z
 | .s i=>σ[i]?=some (some v)/\∃s,st[i]?=some s/\s.get≠none
noncomputable def cont(st:En):Rs->Option D
 | .d x=>some x
 | .f x=>some x
 | .s i=>(st[i]?).bind Sl.get
noncomputable def Rs.nf:Rs->Rs
 | .f x=>.d x
 | r=>r
section
variable {K:PySem.W.Frag}{Y Y' O O' O1 O2 Z:AS}{H H' H1 H2:Hp}{v:V}{d:D}{vs:List V}{ds:List D}{a p:Addr}{st st' st1 st2:En}{σ σ':St}
theorem jh(st:En)(r:Rs):cont st r.nf=cont st r:=by cases r<;>rfl
theorem RVal.nf{r:Rs}(h:RVal K Z st σ H O v r):RVal K Z st σ H O v r.nf:=by
 cases r with
 | d x=>exact h
 | s i=>exact h
 | f x =>
  obtain⟨p,rfl,h1,h2,h3,_⟩:=h;exact h3.da (fun z=>z.elim h1 h2) fun b z=>.inr z
theorem RVal.ba{r:Rs}(h:RVal K Z st σ H O v r)(E:ER K st σ H O Z)(c:cont st r=some d):BA K (U O Z) H v d:=by
 cases r with
 | d x=>cases c;exact DA.ba h
 | f x =>
  cases c;have:=RVal.nf h;exact DA.ba (show DA K (U O Z) H v _ from this)
 | s i =>
  obtain⟨h1,s,h2,h3⟩:=h;have c':(st[i]?).bind Sl.get=some d:=c;rw[h2]at c';cases s with
  | e=>cases c'
  | v x =>
   cases c';obtain⟨u,g1,g2⟩:=E.val i _ h2;rw[h1]at g1;cases g1;exact g2.ba
  | o x =>
   cases c';obtain⟨p,g1,g2,g3⟩:=E.own i _ _ h2 rfl;rw[h1]at g1;cases g1;exact g3.ba
  | io x =>
   cases c';obtain⟨p,g1,g2,g3⟩:=E.own i _ _ h2 rfl;rw[h1]at g1;cases g1;exact g3.ba
theorem RVal.ext{r:Rs}(h:RVal K Z st σ H O v r.nf)(e:Ext O H O' H')(k:Kp st st'):RVal K Z st' σ H' O' v r.nf:=by
 cases r with
 | d x=>exact DA.ext (show DA K (U O Z) H v x from h) e
 | f x=>exact DA.ext (show DA K (U O Z) H v x from h) e
 | s i =>
  obtain⟨h1,s,h2,h3⟩:=h;exact⟨h1,k.has i s h2 h3⟩
theorem ER.same(E:ER K st σ H O Z)(s:Same H H'):ER K st σ H' O Z:=by
 refine⟨E.len,fun i d h=>?_,fun i s' d h1 h2=>?_,E.uni,E.dis,fun p hp=>?_⟩
 ·obtain⟨v,h1,h2⟩:=E.val i d h;exact⟨v,h1,h2.same s⟩
 ·obtain⟨p,g1,g2,g3⟩:=E.own i s' d h1 h2;refine⟨p,g1,g2,g3.go ?_ (fun b o e _=>s b o e) fun b z=>.inl z⟩;cases e:H p with
  | none=>exact absurd e g3.live
  | some o=>exact s p o e
 ·exact(E.liv p hp).same fun o e=>s p o e
theorem ER.away(E:ER K st σ H O Z)(s:Same H H')(hp:H p=none)(hp':Lv H' p):ER K st σ H' (ins p O) Z:=by
 have sub:∀b,U (ins p O) Z b->ins p (U O Z) b:=fun b z=>by
  rcases z with(z|z)|z
  ·exact .inl z
  ·exact .inr (.inl z)
  ·exact .inr (.inr z)
 refine⟨E.len,fun i d h=>?_,fun i s' d h1 h2=>?_,E.uni,fun q hq=>?_,fun q hq=>?_⟩
 ·obtain⟨v,h1,h2⟩:=E.val i d h;exact⟨v,h1,(h2.away s hp).less sub⟩
 ·obtain⟨q,g1,g2,g3⟩:=E.own i s' d h1 h2;refine⟨q,g1,.inr g2,g3.go ?_ (fun b o e _=>s b o e) fun b z=>?_⟩
  ·cases e:H q with
   | none=>exact absurd e g3.live
   | some o=>exact s q o e
  ·rcases sub b z with z|z
   ·exact .inr (z ▸ hp)
   ·exact .inl z
 ·rcases hq with rfl|hq
  ·exact fun z=>(E.liv _ (.inr z)).1 hp
  ·exact E.dis q hq
 ·rcases hq with(rfl|hq)|hq
  ·exact hp'
  ·exact(E.same s).liv q (.inl hq)
  ·exact(E.same s).liv q (.inr hq)
theorem ER.free(E:ER K st σ H O Z)(hp:H p=none):¬ O p/\¬ Z p:=⟨fun z=>(E.liv p (.inl z)).1 hp,fun z=>(E.liv p (.inr z)).1 hp⟩
theorem ER.new(E:ER K st σ H O Z)(hp:H p=none)(el:El K (U O Z) H vs ds):ER K st σ (upd H p (.lst vs)) O Z/\RVal K Z st σ (upd H p (.lst vs)) O (.ref p) (.f (.lst ds)):=by
 have s:=bj hp (.lst vs);have hf:=E.free hp;refine⟨E.same s,p,rfl,hf.1,hf.2,⟨vs,br,el.away s hp⟩,E.away s hp ⟨by rw[br];simp,fun _ z=>by rw[br]at z;cases z⟩⟩
theorem ER.newT(E:ER K st σ H O Z)(hp:H p=none)(el:El K (U O Z) H vs ds):ER K st σ (upd H p (.tup vs)) O Z/\RVal K Z st σ (upd H p (.tup vs)) O (.ref p) (.d (.tup ds)):=by
 have s:=bj hp (.tup vs);have hf:=E.free hp;exact⟨E.same s,.tup ⟨br,fun z=>z.elim hf.1 hf.2⟩ el.1 (el.same s).2⟩
noncomputable def wI(st:En)(i:Nat):Option En:=match st[i]? with
 | some (.v _)=>some st
 | some (.o d)=>some (st.set i (.v d))
 | _=>none
noncomputable def x8(st:En):Rs->Option En
 | .s i=>wI st i
 | _=>some st
theorem aG{α:Type}{l:List α}{i j:Nat}{x:α}(h:i≠j):(l.set i x)[j]?=l[j]?:=by rw[List.getElem?_set,if_neg h]
theorem bn{α:Type}{l:List α}{i:Nat}{x y:α}(h:l[i]?=some y):(l.set i x)[i]?=some x:=by
 have hi:=(Yb.mp h).1;rw[List.getElem?_set,if_pos rfl,if_pos hi]
set_option tactic.hygienic true in
theorem AO{i:Nat}(h:wI st i=some st'):Kp st st'/\∃d,st'[i]?=some (.v d)/\(st[i]?).bind Sl.get=some d:=by
 unfold wI at h;split at h
 ·rename_i d e
  cases h;exact⟨Kp.refl st,d,e,by rw[e];rfl⟩
 ·rename_i d e
  cases h;refine⟨⟨by simp,fun j s hj g=>?_,fun j d' hj=>?_⟩,d,bn e,by rw[e];rfl⟩
  ·by_cases q:i=j
   ·subst q;exact⟨.v d,bn e,by simp[Sl.get]⟩
   ·exact⟨s,by rw[aG q];exact hj,g⟩
  ·have q:i≠j:=fun z=>by subst z;rw[e]at hj;cases hj
   exact⟨d',by rw[aG q];exact hj⟩
 ·cases h
set_option tactic.hygienic true in
theorem ER.frz{i:Nat}(E:ER K st σ H O Z)(h:wI st i=some st'):∃O',Ext O H O' H/\ER K st' σ H O' Z/\(∀b,O' b->O b):=by
 unfold wI at h;split at h
 ·cases h;exact⟨O,Ext.refl O H,E,fun _ z=>z⟩
 ·rename_i d e
  cases h;obtain⟨p,g1,g2,g3⟩:=E.own i _ _ e rfl;have less:∀b,U (fun b=>O b/\b≠p) Z b->U O Z b:=fun b z=>z.elim (fun q=>.inl q.1) .inr;refine⟨fun b=>O b/\b≠p,⟨fun b o q _=>q,fun b z=>.inl z.1,fun b z=>z,fun b z=>z⟩,⟨by simp[E.len],fun j x hj=>?_,fun j s x hj hs=>?_,fun j k s t x y q hj hs hk ht e1 e2=>?_,fun q hq=>E.dis q hq.1,fun q hq=>E.liv q (less q hq)⟩,fun b z=>z.1⟩
  ·by_cases q:i=j
   ·subst q;rw[bn e]at hj;cases hj;exact⟨.ref p,g1,g3.da (fun z=>z.elim (fun y=>y.2 rfl) (E.dis p g2)) less⟩
   ·rw[aG q]at hj;obtain⟨v,h1,h2⟩:=E.val j x hj;exact⟨v,h1,h2.less less⟩
  ·have q:i≠j:=fun z=>by
    subst z;rw[bn e]at hj;cases hj;cases hs
   rw[aG q]at hj;obtain⟨r,h1,h2,h3⟩:=E.own j s x hj hs;refine⟨r,h1,⟨h2,fun z=>q ?_⟩,h3.go rfl (fun _ _ e _=>e) fun b z=>.inl (less b z)⟩;subst z;exact E.uni i j _ _ _ _ r e rfl hj hs g1 h1
  ·have q1:i≠j:=fun z=>by
    subst z;rw[bn e]at hj;cases hj;cases hs
   have q2:i≠k:=fun z=>by
    subst z;rw[bn e]at hk;cases hk;cases ht
   rw[aG q1]at hj;rw[aG q2]at hk;exact E.uni j k s t x y q hj hs hk ht e1 e2
 ·cases h
theorem RVal.frz{r:Rs}(h:RVal K Z st σ H O v r)(E:ER K st σ H O Z)(f:x8 st r=some st')(c:cont st r=some d):∃O',Ext O H O' H/\Kp st st'/\ER K st' σ H O' Z/\DA K (U O' Z) H v d:=by
 cases r with
 | d x=>cases f;cases c;exact⟨O,Ext.refl O H,Kp.refl st,E,h⟩
 | f x=>cases f;cases c;exact⟨O,Ext.refl O H,Kp.refl st,E,RVal.nf h⟩
 | s i =>
  obtain⟨h1,s,h2,h3⟩:=h;have f':wI st i=some st':=f;obtain⟨k,x,k1,k2⟩:=AO f';obtain⟨O',e1,e2,_⟩:=E.frz f';have c':(st[i]?).bind Sl.get=some d:=c;have ex:x=d:=Option.some.inj (k2.symm.trans c');subst ex;obtain⟨u,g1,g2⟩:=e2.val i _ k1;rw[h1]at g1;cases g1;exact⟨O',e1,k,e2,g2⟩
theorem ER.write{i:Nat}{s:Sl}{x y:D}{o:HO}(E:ER K st σ H O Z)(hs:st[i]?=some s)(ho:s.ow=some x)(hp:σ[i]?=some (some (.ref p)))(new:OA K (U O Z) (upd H p o) p y) :
  ER K (st.set i (s.put y)) σ (upd H p o) O Z/\Ext O H O (upd H p o)/\Kp st (st.set i (s.put y)):=by
 obtain⟨q,g1,g2,g3⟩:=E.own i s x hs ho;have eq:q=p:=by rw[hp]at g1;cases g1;rfl
 subst eq;have keep:∀b u,H b=some u->¬ U O Z b->upd H q o b=some u:=fun b u e n=>by
  have hb:b≠q:=fun z=>n (.inl (by rw[z];exact g2))
  rw[aT hb];exact e
 refine⟨⟨by simp[E.len],fun j d hj=>?_,fun j t d hj ht=>?_,fun j k t t' d d' r hj ht hk ht' e1 e2=>?_,E.dis,fun r hr=>?_⟩,⟨fun b u e n=>?_,fun b z=>.inl z,fun b z=>?_,fun b z=>?_⟩,⟨by simp,fun j t hj ht=>?_,fun j d hj=>?_⟩⟩
 ·by_cases e:i=j
  ·subst e;rw[bn hs]at hj;exact absurd (Option.some.inj hj) (Sl.put_v _ _ _)
  ·rw[aG e]at hj;obtain⟨v,h1,h2⟩:=E.val j d hj;exact⟨v,h1,h2.go keep fun b z=>.inl z⟩
 ·by_cases e:i=j
  ·subst e;rw[bn hs]at hj;have:=Option.some.inj hj;subst this;rw[Sl.put_ow]at ht;cases ht;exact⟨q,hp,g2,new⟩
  ·rw[aG e]at hj;obtain⟨r,h1,h2,h3⟩:=E.own j t d hj ht;have hne:r≠q:=fun z=>by subst z;exact e (E.uni i j s t x d r hs ho hj ht hp h1)
   exact⟨r,h1,h2,h3.go (aT hne) keep fun b z=>.inl z⟩
 ·have own':∀(m:Nat)(t:Sl)(d:D),(st.set i (s.put y))[m]?=some t->t.ow=some d->∃t2 d2,st[m]?=some t2/\t2.ow=some d2:=fun m t d hm ht=>by
   by_cases e:i=m
   ·subst e;exact⟨s,x,hs,ho⟩
   ·rw[aG e]at hm;exact⟨t,d,hm,ht⟩
  obtain⟨t1,d1,a1,b1⟩:=own' j t d hj ht;obtain⟨t2,d2,a2,b2⟩:=own' k t' d' hk ht';exact E.uni j k t1 t2 d1 d2 r a1 b1 a2 b2 e1 e2
 ·by_cases e:r=q
  ·subst e;exact new.lv
  ·exact(E.liv r hr).same fun o' eo=>by rw[aT e];exact eo
 ·have hb:b≠q:=fun z=>n (by rw[z];exact g2)
  rw[aT hb];exact e
 ·by_cases e:b=q
  ·subst e;rw[br];simp
  ·rw[aT e];exact z
 ·by_cases e:b=q
  ·subst e;exact new.lv
  ·exact z.same fun o' eo=>by rw[aT e];exact eo
 ·by_cases e:i=j
  ·subst e;exact⟨s.put y,bn hs,by cases s<;>simp[Sl.put,Sl.get]⟩
  ·exact⟨t,by rw[aG e];exact hj,ht⟩
 ·by_cases e:i=j
  ·subst e;rw[hs]at hj;cases hj;exact⟨y,bn hs⟩
  ·exact⟨d,by rw[aG e];exact hj⟩
end
end VF
namespace VF
open PySem L2
noncomputable abbrev FE:=En->Option (Rs×En)
noncomputable abbrev FA:=En->Option (List Rs×En)
noncomputable abbrev FT:=En->Option (Bool×En)
noncomputable abbrev Rz:=D×Bool
noncomputable def mk:Rz->Rs
 | (d,true)=>.f d
 | (d,false)=>.d d
noncomputable def RES(K:PySem.W.Frag)(Y:AS)(H H':Hp)(v:V):Rz->Prop
 | (d,true)=>∃p,v=.ref p/\H p=none/\OA K (ins p Y) H' p d
 | (d,false)=>DA K Y H' v d
noncomputable def Fsh(H:Hp)(v:V):Rs->Prop
 | .f _=>∀p,v=.ref p->H p=none
 | _=>True
theorem Ext.dead{O O':AS}{H H':Hp}(e:Ext O H O' H'){p:Addr}(h:H' p=none):H p=none:=by
 cases q:H p with
 | none=>rfl
 | some o=>exact absurd h (e.al p (by rw[q];simp))
theorem Fsh.back{O O':AS}{H H':Hp}{v:V}{r:Rs}(h:Fsh H' v r)(e:Ext O H O' H'):Fsh H v r:=by
 cases r with
 | f x=>exact fun p hp=>e.dead (h p hp)
 | d x=>trivial
 | s i=>trivial
noncomputable def RdE(K:PySem.W.Frag)(te:TE)(f:FE):Prop:=∀(st:En)(σ:St)(H:Hp)(O Z:AS)(Q:VK),ER K st σ H O Z->∀r st',f st=some (r,st') ->
 (∀v H' O',Ext O H O' H'->Kp st st'->ER K st' σ H' O' Z->RVal K Z st' σ H' O' v r->Fsh H v r->Q v H')->te σ H Q
inductive RVs(K:PySem.W.Frag)(Z:AS)(st:En)(σ:St)(H:Hp)(O:AS):List V->List Rs->Prop where
 | nil:RVs K Z st σ H O [] []
 | cons {v:V} {vs:List V} {r:Rs} {rs:List Rs}:RVal K Z st σ H O v r.nf->RVs K Z st σ H O vs rs->RVs K Z st σ H O (v::vs) (r::rs)
noncomputable def RdA(K:PySem.W.Frag)(ta:TA)(f:FA):Prop:=∀(st:En)(σ:St)(H:Hp)(O Z:AS)(Q:List V->Hp->Prop),ER K st σ H O Z->∀rs st',f st=some (rs,st') ->
 (∀vs H' O',Ext O H O' H'->Kp st st'->ER K st' σ H' O' Z->RVs K Z st' σ H' O' vs rs->Q vs H')->ta σ H Q
noncomputable def RdT(K:PySem.W.Frag)(tt:TT)(f:FT):Prop:=∀(st:En)(σ:St)(H:Hp)(O Z:AS)(Q:Bool->Hp->Prop),ER K st σ H O Z->∀c st',f st=some (c,st') ->
 (∀H' O',Ext O H O' H'->Kp st st'->ER K st' σ H' O' Z->Q c H')->tt σ H Q
noncomputable def RdOp(K:PySem.W.Frag)(r:R2)(b:D->D->Option Rz):Prop:=∀(Y:AS)(H:Hp)(x y:V)(d1 d2:D)(z:Rz)(Q:VK),(∀p,Y p->Lv H p)->BA K Y H x d1->BA K Y H y d2->b d1 d2=some z ->
 (∀v H',Same H H'->RES K Y H H' v z->Q v H')->r x y H Q
noncomputable def Fv(K:PySem.W.Frag)(r:V->Hp->VK->Prop)(b:D->Option Rz):Prop:=∀(Y:AS)(H:Hp)(x:V)(d1:D)(z:Rz)(Q:VK),(∀p,Y p->Lv H p)->BA K Y H x d1->b d1=some z ->
 (∀v H',Same H H'->RES K Y H H' v z->Q v H')->r x H Q
inductive BAs(K:PySem.W.Frag)(Y:AS)(H:Hp):List V->List D->Prop where
 | nil:BAs K Y H [] []
 | cons {v:V} {vs:List V} {d:D} {ds:List D}:BA K Y H v d->BAs K Y H vs ds->BAs K Y H (v::vs) (d::ds)
noncomputable def RdCB(K:PySem.W.Frag)(r:List V->Hp->VK->Prop)(b:List D->Option Rz):Prop:=∀(Y:AS)(H:Hp)(xs:List V)(ds:List D)(z:Rz)(Q:VK),(∀p,Y p->Lv H p)->BAs K Y H xs ds->b ds=some z ->
 (∀v H',Same H H'->RES K Y H H' v z->Q v H')->r xs H Q
section
variable {K:PySem.W.Frag}{Y Y' O O' O1 O2 Z:AS}{H H' H1 H2:Hp}{v:V}{d:D}{vs:List V}{ds:List D}{a p:Addr}{st st' st1 st2:En}{σ σ':St}
theorem RES.rv{z:Rz}(E:ER K st σ H O Z)(s:Same H H')(h:RES K (U O Z) H H' v z):ER K st σ H' O Z/\RVal K Z st σ H' O v (mk z):=by
 obtain⟨d,fr⟩:=z;cases fr with
 | false=>exact⟨E.same s,h⟩
 | true =>
  obtain⟨p,rfl,hp,ho⟩:=h;have hf:=E.free hp;exact⟨E.same s,p,rfl,hf.1,hf.2,ho,E.away s hp ho.lv⟩
theorem RES.fsh{z:Rz}(h:RES K Y H H' v z):Fsh H v (mk z):=by
 obtain⟨d,fr⟩:=z;cases fr with
 | false=>trivial
 | true=>obtain⟨p,rfl,hp,_⟩:=h;exact fun q e=>by cases e;exact hp
theorem RVs.ext{rs:List Rs}(h:RVs K Z st σ H O vs rs)(e:Ext O H O' H')(k:Kp st st'):RVs K Z st' σ H' O' vs rs:=by
 induction h with
 | nil=>exact .nil
 | cons h1 _ ih=>exact .cons (h1.ext e k) ih
noncomputable def dQ(st:En):List Rs->Option (List D)
 | []=>some []
 | r::rs=>(cont st r).bind fun d=>(dQ st rs).bind fun ds=>some (d::ds)
theorem RVs.bas{rs:List Rs}(h:RVs K Z st σ H O vs rs)(E:ER K st σ H O Z):∀{ds:List D},dQ st rs=some ds->BAs K (U O Z) H vs ds:=by
 induction h with
 | nil=>intro ds e;cases e;exact .nil
 | @cons v vs r rs h1 _ ih =>
  intro ds e;refine bsO e fun d e1 e=>?_;refine bsO e fun ds' e2 e=>?_;cases e;exact .cons (h1.ba E (by rw[jh];exact e1)) (ih e2)
noncomputable def ef:List Rs->En->Option (List D×En)
 | [],st=>some ([],st)
 | r::rs,st=>(cont st r).bind fun d=>(x8 st r).bind fun st1=>(ef rs st1).bind fun x=>some (d::x.1,x.2)
theorem AQ(st:En)(r:Rs):x8 st r.nf=x8 st r:=by cases r<;>rfl
theorem RVs.esc:∀{rs:List Rs}{vs:List V}{st:En}{O:AS}{ds:List D}{st':En},RVs K Z st σ H O vs rs->ER K st σ H O Z->ef rs st=some (ds,st')->∃O',Ext O H O' H/\Kp st st'/\ER K st' σ H O' Z/\El K (U O' Z) H vs ds
 | [],_,st,O,ds,st',.nil,E,e=>by cases e;exact⟨O,Ext.refl O H,Kp.refl _,E,El.nil⟩
 | r::rs,_,st,O,ds,st',.cons h1 h2,E,e=>by
  refine bsO e fun d e1 e=>?_;refine bsO e fun st1 e2 e=>?_;refine bsP e fun ds2 st2 e3 e=>?_;cases e;obtain⟨O1,x1,k1,E1,da⟩:=h1.frz E (by rw[AQ];exact e2) (by rw[jh];exact e1)
  obtain⟨O2,x2,k2,E2,el⟩:=RVs.esc (h2.ext x1 k1) E1 e3;exact⟨O2,x1.trans x2,k1.trans k2,E2,El.cons (da.ext x2) el⟩
noncomputable def ai(i:Nat):FE:=fun st=>match st[i]? with
 | some (.v d)=>some (.d d,st)
 | some (.o _)=>some (.s i,st)
 | some (.io _)=>some (.s i,st)
 | _=>none
set_option tactic.hygienic true in
theorem af(i:Nat):RdE K (tK i) (ai i):=by
 intro st σ H O Z Q E r st' h q;unfold ai at h;split at h
 ·rename_i d e
  cases h;obtain⟨v,h1,h2⟩:=E.val i d e;exact⟨v,h1,q v H O (Ext.refl O H) (Kp.refl _) E h2 True.intro⟩
 ·rename_i d e
  cases h;obtain⟨p,h1,h2,h3⟩:=E.own i _ _ e rfl;exact⟨.ref p,h1,q _ H O (Ext.refl O H) (Kp.refl _) E ⟨h1,_,e,by simp[Sl.get]⟩ True.intro⟩
 ·rename_i d e
  cases h;obtain⟨p,h1,h2,h3⟩:=E.own i _ _ e rfl;exact⟨.ref p,h1,q _ H O (Ext.refl O H) (Kp.refl _) E ⟨h1,_,e,by simp[Sl.get]⟩ True.intro⟩
 ·cases h
noncomputable def fC(d:D):FE:=fun st=>some (.d d,st)
theorem gr{v:V}{d:D}(h:∀Y H,DA K Y H v d):RdE K (tC v) (fC d):=by
 intro st σ H O Z Q E r st' e q;cases e;exact q v H O (Ext.refl O H) (Kp.refl _) E (h _ _) True.intro
theorem ak(i:Int):RdE K (tC (.int i)) (fC (.int i)):=gr fun _ _=>.int i
theorem bW(x:Str):RdE K (tC (.str x)) (fC (.str x)):=gr fun _ _=>.str x
theorem gt(b:Bool):RdE K (tC (.bl b)) (fC (.bl b)):=gr fun _ _=>.bl b
theorem jP:RdE K (tC .non) (fC .non):=gr fun _ _=>.non
noncomputable def fOp(b:D->D->Option Rz)(fa fb:FE):FE:=fun st=>(fa st).bind fun x=>(fb x.2).bind fun y=>(cont y.2 x.1).bind fun d1=>(cont y.2 y.1).bind fun d2=>(b d1 d2).bind fun z=>some (mk z,y.2)
theorem ao{r:R2}{b:D->D->Option Rz}{ta tb:TE}{fa fb:FE}(hr:RdOp K r b)(ha:RdE K ta fa)(hb:RdE K tb fb):RdE K (tOp r ta tb) (fOp b fa fb):=by
 intro st σ H O Z Q E r' st' h q;refine bsP h fun r1 st1 e1 h=>?_;refine bsP h fun r2 st2 e2 h=>?_;refine bsO h fun d1 e3 h=>?_;refine bsO h fun d2 e4 h=>?_;refine bsO h fun z e5 h=>?_;cases h;refine ha st σ H O Z _ E r1 st1 e1 fun v1 H1 O1 x1 k1 E1 rv1 w1=>?_;refine hb st1 σ H1 O1 Z _ E1 r2 st2 e2 fun v2 H2 O2 x2 k2 E2 rv2 w2=>?_;have b1:=(rv1.nf.ext x2 k2).ba E2 (by rw[jh];exact e3)
 refine hr (U O2 Z) H2 v1 v2 d1 d2 z _ E2.liv b1 (rv2.ba E2 e4) e5 fun v H3 s hres=>?_;obtain⟨E3,rv3⟩:=hres.rv E2 s;exact q v H3 O2 ((x1.trans x2).trans (Same.ext s)) (k1.trans k2) E3 rv3 (hres.fsh.back (x1.trans x2))
noncomputable def fUn(b:D->Option Rz)(fa:FE):FE:=fun st=>(fa st).bind fun x=>(cont x.2 x.1).bind fun d1=>(b d1).bind fun z=>some (mk z,x.2)
theorem pE{r:V->Hp->VK->Prop}{b:D->Option Rz}{ta:TE}{fa:FE}(hr:Fv K r b)(ha:RdE K ta fa):RdE K (tUn r ta) (fUn b fa):=by
 intro st σ H O Z Q E r' st' h q;refine bsP h fun r1 st1 e1 h=>?_;refine bsO h fun d1 e3 h=>?_;refine bsO h fun z e5 h=>?_;cases h;refine ha st σ H O Z _ E r1 st1 e1 fun v1 H1 O1 x1 k1 E1 rv1 w1=>?_;refine hr (U O1 Z) H1 v1 d1 z _ E1.liv (rv1.ba E1 e3) e5 fun v H3 s hres=>?_;obtain⟨E3,rv3⟩:=hres.rv E1 s;exact q v H3 O1 (x1.trans (Same.ext s)) k1 E3 rv3 (hres.fsh.back x1)
noncomputable def tru(st:En)(r:Rs):Option Bool:=match cont st r with
 | some (.bl c)=>some c
 | _=>none
set_option tactic.hygienic true in
theorem Cn{r:Rs}{c:Bool}(E:ER K st σ H O Z)(h:RVal K Z st σ H O v r)(t:tru st r=some c):v=.bl c:=by
 unfold tru at t;split at t
 ·rename_i b e
  cases t;exact h.ba E e
 ·cases t
noncomputable def aH(fa:FE):FT:=fun st=>(fa st).bind fun x=>(tru x.2 x.1).bind fun c=>some (c,x.2)
theorem aM{ta:TE}{fa:FE}(ha:RdE K ta fa):RdT K (Cd ta) (aH fa):=by
 intro st σ H O Z Q E c st' h q;refine bsP h fun r1 st1 e1 h=>?_;refine bsO h fun c' e2 h=>?_;cases h;exact ha st σ H O Z _ E r1 st1 e1 fun v1 H1 O1 x1 k1 E1 rv1 w1=>⟨c,Cn E1 rv1 e2,q H1 O1 x1 k1 E1⟩
theorem fB{ta:TE}{fa:FE}(ha:RdE K ta fa):RdT K (tB ta) (aH fa):=aM ha
noncomputable def iD(f:FT):FT:=fun st=>(f st).bind fun x=>some (!x.1,x.2)
theorem gL{t:TT}{f:FT}(h:RdT K t f):RdT K (EY t) (iD f):=by
 intro st σ H O Z Q E c st' e q;refine bsP e fun c1 st1 e1 e=>?_;cases e;exact h st σ H O Z _ E c1 st1 e1 q
noncomputable def eY(f g:FT):FT:=fun st=>(f st).bind fun x=>if x.1=true then g x.2 else some (false,x.2)
theorem fP{t u:TT}{f g:FT}(h:RdT K t f)(h':RdT K u g):RdT K (EX t u) (eY f g):=by
 intro st σ H O Z Q E c st' e q;refine bsP e fun c1 st1 e1 e=>?_;refine h st σ H O Z _ E c1 st1 e1 fun H1 O1 x1 k1 E1=>?_;cases c1 with
 | true =>
  rw[if_pos rfl]at e ⊢;exact h' st1 σ H1 O1 Z _ E1 c st' e fun H2 O2 x2 k2 E2=>q H2 O2 (x1.trans x2) (k1.trans k2) E2
 | false =>
  simp only[Qe,if_false]at e ⊢;cases e;exact q H1 O1 x1 k1 E1
noncomputable def oT(f g:FT):FT:=fun st=>(f st).bind fun x=>if x.1=true then some (true,x.2) else g x.2
theorem jQ{t u:TT}{f g:FT}(h:RdT K t f)(h':RdT K u g):RdT K (tOr t u) (oT f g):=by
 intro st σ H O Z Q E c st' e q;refine bsP e fun c1 st1 e1 e=>?_;refine h st σ H O Z _ E c1 st1 e1 fun H1 O1 x1 k1 E1=>?_;cases c1 with
 | true =>
  rw[if_pos rfl]at e ⊢;cases e;exact q H1 O1 x1 k1 E1
 | false =>
  simp only[Qe,if_false]at e ⊢;exact h' st1 σ H1 O1 Z _ E1 c st' e fun H2 O2 x2 k2 E2=>q H2 O2 (x1.trans x2) (k1.trans k2) E2
noncomputable def dB:FT:=fun st=>some (true,st)
theorem fD:RdT K Ft dB:=by
 intro st σ H O Z Q E c st' e q;cases e;exact q H O (Ext.refl O H) (Kp.refl _) E
noncomputable def iE(fa fb:FE):FE:=fun st=>(fa st).bind fun x=>(tru x.2 x.1).bind fun c=>if c=true then fb x.2 else some (.d (.bl false),x.2)
theorem ji{ta tb:TE}{fa fb:FE}(ha:RdE K ta fa)(hb:RdE K tb fb):RdE K (B7 ta tb) (iE fa fb):=by
 intro st σ H O Z Q E r st' h q;refine bsP h fun r1 st1 e1 h=>?_;refine bsO h fun c e2 h=>?_;refine ha st σ H O Z _ E r1 st1 e1 fun v1 H1 O1 x1 k1 E1 rv1 w1=>⟨c,Cn E1 rv1 e2,?_⟩;cases c with
 | true =>
  rw[if_pos rfl]at h ⊢;exact hb st1 σ H1 O1 Z _ E1 r st' h fun v H2 O2 x2 k2 E2 rv w2=>q v H2 O2 (x1.trans x2) (k1.trans k2) E2 rv (w2.back x1)
 | false =>
  rw[if_neg (by decide)]at h ⊢
  cases h;exact q _ H1 O1 x1 k1 E1 (.bl false) True.intro
noncomputable def fIf(f:FT)(fa fb:FE):FE:=fun st=>(f st).bind fun x=>if x.1=true then fa x.2 else fb x.2
theorem kI{t:TT}{f:FT}{ta tb:TE}{fa fb:FE}(h:RdT K t f)(ha:RdE K ta fa)(hb:RdE K tb fb):RdE K (tIf t ta tb) (fIf f fa fb):=by
 intro st σ H O Z Q E r st' e q;refine bsP e fun c1 st1 e1 e=>?_;refine h st σ H O Z _ E c1 st1 e1 fun H1 O1 x1 k1 E1=>?_;cases c1 with
 | true =>
  rw[if_pos rfl]at e ⊢;exact ha st1 σ H1 O1 Z _ E1 r st' e fun v H2 O2 x2 k2 E2 rv w2=>q v H2 O2 (x1.trans x2) (k1.trans k2) E2 rv (w2.back x1)
 | false =>
  simp only[Qe,if_false]at e ⊢;exact hb st1 σ H1 O1 Z _ E1 r st' e fun v H2 O2 x2 k2 E2 rv w2=>q v H2 O2 (x1.trans x2) (k1.trans k2) E2 rv (w2.back x1)
noncomputable def am:FA:=fun st=>some ([],st)
theorem ah:RdA K wv am:=by
 intro st σ H O Z Q E rs st' e q;cases e;exact q [] H O (Ext.refl O H) (Kp.refl _) E .nil
noncomputable def ae(fa:FE)(fr:FA):FA:=fun st=>(fa st).bind fun x=>(fr x.2).bind fun y=>some (x.1::y.1,y.2)
theorem aa{ta:TE}{fa:FE}{tr:TA}{fr:FA}(ha:RdE K ta fa)(hr:RdA K tr fr):RdA K (kz ta tr) (ae fa fr):=by
 intro st σ H O Z Q E rs st' h q;refine bsP h fun r1 st1 e1 h=>?_;refine bsP h fun rs2 st2 e2 h=>?_;cases h;refine ha st σ H O Z _ E r1 st1 e1 fun v1 H1 O1 x1 k1 E1 rv1 w1=>?_;refine hr st1 σ H1 O1 Z _ E1 rs2 st2 e2 fun vs H2 O2 x2 k2 E2 rvs=>?_;exact q (v1::vs) H2 O2 (x1.trans x2) (k1.trans k2) E2 (.cons (rv1.nf.ext x2 k2) rvs)
theorem few{n:Nat}(h:n<=1000000):n<=sizeLine:=Xe h (by decide)
noncomputable def dC(fa:FA):FE:=fun st=>(fa st).bind fun x=>(ef x.1 x.2).bind fun y=>if y.1.length<=1000000 then some (.d (.tup y.1),y.2) else none
theorem ci{ta:TA}{fa:FA}(ha:RdA K ta fa):RdE K (Fi ta) (dC fa):=by
 intro st σ H O Z Q E r st' h q;refine bsP h fun rs st1 e1 h=>?_;refine bsP h fun ds st2 e2 h=>?_;refine ha st σ H O Z _ E rs st1 e1 fun vs H1 O1 x1 k1 E1 rvs=>?_;obtain⟨O2,x2,k2,E2,el⟩:=rvs.esc E1 e2;obtain⟨hz,h⟩:=aR h;cases h;refine⟨by rw[el.1];exact few hz,fun p hp=>?_⟩
 obtain⟨E3,rv⟩:=E2.newT hp el;exact q _ _ O2 ((x1.trans x2).trans (Same.ext (bj hp _))) (k1.trans k2) E3 rv True.intro
noncomputable def cX(fa:FA):FE:=fun st=>(fa st).bind fun x=>(ef x.1 x.2).bind fun y=>if y.1.length<=1000000 then some (.f (.lst y.1),y.2) else none
theorem cE{ta:TA}{fa:FA}(ha:RdA K ta fa):RdE K (Df ta) (cX fa):=by
 intro st σ H O Z Q E r st' h q;refine bsP h fun rs st1 e1 h=>?_;refine bsP h fun ds st2 e2 h=>?_;refine ha st σ H O Z _ E rs st1 e1 fun vs H1 O1 x1 k1 E1 rvs=>?_;obtain⟨O2,x2,k2,E2,el⟩:=rvs.esc E1 e2;obtain⟨hz,h⟩:=aR h;cases h;refine⟨by rw[el.1];exact few hz,fun p hp=>?_⟩
 obtain⟨E3,rv⟩:=E2.new hp el;exact q _ _ O2 ((x1.trans x2).trans (Same.ext (bj hp _))) (k1.trans k2) E3 rv fun p' e=>by cases e;exact(x1.trans x2).dead hp
noncomputable def fCB(b:List D->Option Rz)(fa:FA):FE:=fun st=>(fa st).bind fun x=>(dQ x.2 x.1).bind fun ds=>(b ds).bind fun z=>some (mk z,x.2)
theorem aV{r:List V->Hp->VK->Prop}{b:List D->Option Rz}{ta:TA}{fa:FA}(hr:RdCB K r b)(ha:RdA K ta fa):RdE K (tCB r ta) (fCB b fa):=by
 intro st σ H O Z Q E r0 st' h q;refine bsP h fun rs st1 e1 h=>?_;refine bsO h fun ds e2 h=>?_;refine bsO h fun z e3 h=>?_;cases h;refine ha st σ H O Z _ E rs st1 e1 fun vs H1 O1 x1 k1 E1 rvs=>?_;refine hr (U O1 Z) H1 vs ds z _ E1.liv (rvs.bas E1 e2) e3 fun v H3 s hres=>?_;obtain⟨E3,rv3⟩:=hres.rv E1 s;exact q v H3 O1 (x1.trans (Same.ext s)) k1 E3 rv3 (hres.fsh.back x1)
end
end VF
namespace VF
open PySem L2
noncomputable def D.isSc:D->Bool
 | .non=>true
 | .bl _=>true
 | .int _=>true
 | .str _=>true
 | .ty _=>true
 | _=>false
noncomputable def spV(K:PySem.W.Frag)(g:List D->Option Rz):Sp:=fun vs H Q _=>∃(Z:AS)(ds:List D)(z:Rz),El K Z H vs ds/\(∀p,Z p->Lv H p)/\g ds=some z/\∀v H',Same H H'->RES K Z H H' v z->Q v H'
noncomputable def GQ(K:PySem.W.Frag)(Y:AS)(f:Addr)(x':D)(H H':Hp)(v:V):Rz->Prop
 | (d,true)=>∃p,v=.ref p/\H p=none/\OA K (ins p Y) H' p d/\OA K (ins p Y) H' f x'
 | (d,false)=>DA K Y H' v d/\OA K Y H' f x'
noncomputable def mx(K:PySem.W.Frag)(g:D->List D->Option (Rz×D)):Sp:=fun vs H Q _=>∃(f:Addr)(ws:List V)(Z:AS)(x:D)(ds:List D)(z:Rz)(x':D),vs=.ref f::ws/\¬ Z f/\OA K (ins f Z) H f x/\El K (ins f Z) H ws ds/\(∀p,Z p->Lv H p)/\g x ds=some (z,x') /\
 ∀v H',(∀b o,H b=some o->b≠f->H' b=some o)->GQ K (ins f Z) f x' H H' v z->Q v H'
section
variable {K:PySem.W.Frag}{Y Y' O O' O1 O2 Z:AS}{H H' H1 H2:Hp}{v:V}{d:D}{vs:List V}{ds:List D}{a p:Addr}{st st' st1 st2:En}{σ σ':St}
noncomputable def bB(g:List D->Option Rz)(fa:FA):FE:=fun st=>(fa st).bind fun x=>(ef x.1 x.2).bind fun y=>(g y.1).bind fun z=>some (mk z,y.2)
theorem bp{g:List D->Option Rz}{ta:TA}{fa:FA}(ha:RdA K ta fa):RdE K (wH (spV K g) ta) (bB g fa):=by
 intro st σ H O Z Q E r0 st' h q;refine bsP h fun rs st1 e1 h=>?_;refine bsP h fun ds st2 e2 h=>?_;refine bsO h fun z e3 h=>?_;cases h;refine ha st σ H O Z _ E rs st1 e1 fun vs H1 O1 x1 k1 E1 rvs=>?_;obtain⟨O2,x2,k2,E2,el⟩:=rvs.esc E1 e2;refine⟨U O2 Z,ds,z,el,E2.liv,e3,fun v H3 s hres=>?_⟩;obtain⟨E3,rv3⟩:=hres.rv E2 s;exact q v H3 O2 ((x1.trans x2).trans (Same.ext s)) (k1.trans k2) E3 rv3 (hres.fsh.back (x1.trans x2))
theorem RVal.da0{r:Rs}(h:RVal K Z st σ H O v r)(E:ER K st σ H O Z)(c:cont st r=some d):DA K (fun _=>False) H v d:=by
 cases r with
 | d x=>cases c;exact DA.less (show DA K (U O Z) H v d from h) fun b z=>z.elim
 | f x=>cases c;exact DA.less (show DA K (U O Z) H v d from RVal.nf h) fun b z=>z.elim
 | s i =>
  obtain⟨h1,s,h2,h3⟩:=h;have c':(st[i]?).bind Sl.get=some d:=c;rw[h2]at c';cases s with
  | e=>cases c'
  | v x =>
   cases c';obtain⟨u,g1,g2⟩:=E.val i _ h2;rw[h1]at g1;cases g1;exact g2.less fun b z=>z.elim
  | o x =>
   cases c';obtain⟨p,g1,g2,g3⟩:=E.own i _ _ h2 rfl;rw[h1]at g1;cases g1;exact g3.da (fun z=>z) fun b z=>z.elim
  | io x =>
   cases c';obtain⟨p,g1,g2,g3⟩:=E.own i _ _ h2 rfl;rw[h1]at g1;cases g1;exact g3.da (fun z=>z) fun b z=>z.elim
theorem RVs.el0{rs:List Rs}(h:RVs K Z st σ H O vs rs)(E:ER K st σ H O Z):∀{ds:List D},dQ st rs=some ds->El K (fun _=>False) H vs ds:=by
 induction h with
 | nil=>intro ds e;cases e;exact El.nil
 | @cons v vs r rs h1 _ ih =>
  intro ds e;refine bsO e fun d e1 e=>?_;refine bsO e fun ds' e2 e=>?_;cases e;exact El.cons (h1.da0 E (by rw[jh];exact e1)) (ih e2)
theorem DA.sc(h:DA K Y H v d)(s:d.isSc=true):DA K Y' H' v d:=by
 cases h with
 | non=>exact .non
 | bl b=>exact .bl b
 | int i=>exact .int i
 | str x=>exact .str x
 | ty n=>exact .ty n
 | _=>cases s
noncomputable def bc(g:List D->Option Rz)(fa:FA):FE:=fun st=>(fa st).bind fun x=>(dQ x.2 x.1).bind fun ds=>(g ds).bind fun z=>if (z.1.isSc&&!z.2)=true then some (.d z.1,x.2) else none
theorem bC{g:List D->Option Rz}{ta:TA}{fa:FA}(ha:RdA K ta fa):RdE K (wH (spV K g) ta) (bc g fa):=by
 intro st σ H O Z Q E r0 st' h q;refine bsP h fun rs st1 e1 h=>?_;refine bsO h fun ds e2 h=>?_;refine bsP h fun dz fr e3 h=>?_;obtain⟨hc,h⟩:=aR h;cases h;have h1:dz.isSc=true/\fr=false:=by simpa using hc
 obtain⟨h1,rfl⟩:=h1;refine ha st σ H O Z _ E rs _ e1 fun vs H1 O1 x1 k1 E1 rvs=>?_;refine⟨fun _=>False,ds,(dz,false),rvs.el0 E1 e2,fun p z=>z.elim,e3,fun v H3 s hres=>?_⟩;exact q v H3 O1 (x1.trans (Same.ext s)) k1 (E1.same s) (DA.sc (show DA K (fun _=>False) H3 v dz from hres) h1) True.intro
theorem rN{i:Nat}{s:Sl}{g:D->List D->Option (Rz×D)}{x x':D}{z:Rz}{Q:VK}{ws:List V}{XE:XK}(E:ER K st σ H O Z)(hs:st[i]?=some s)(hx:s.ow=some x)(hv:σ[i]?=some (some v))(el:El K (U O Z) H ws ds)(hg:g x ds=some (z,x'))
  (q:∀v H' O',Ext O H O' H'->Kp st (st.set i (s.put x'))->ER K (st.set i (s.put x')) σ H' O' Z->RVal K Z (st.set i (s.put x')) σ H' O' v (mk z)->Fsh H v (mk z)->Q v H'):mx K g (v::ws) H Q XE:=by
 obtain⟨p,g1,g2,g3⟩:=E.own i s x hs hx;have ev:v=.ref p:=by rw[hv]at g1;cases g1;rfl
 subst ev;have a1:∀b,ins p (fun b=>U O Z b/\b≠p) b->U O Z b:=fun b z=>z.elim (fun q=>by rw[q];exact .inl g2) fun q=>q.1
 have a2:∀b,U O Z b->ins p (fun b=>U O Z b/\b≠p) b:=fun b z=>by
  by_cases e:b=p
  ·exact .inl e
  ·exact .inr ⟨z,e⟩
 refine⟨p,ws,fun b=>U O Z b/\b≠p,x,ds,z,x',rfl,fun z=>z.2 rfl,g3.go rfl (fun _ _ e _=>e) (fun b z=>.inl (a1 b z)),el.less a1,fun b z=>E.liv b z.1,hg,fun u H' kp hres=>?_⟩;have ho:OA K (ins p fun b=>U O Z b/\b≠p) H' p x':=by
  obtain⟨dz,fr⟩:=z;cases fr with
  | false=>exact hres.2
  | true=>obtain⟨r,_,_,_,h⟩:=hres;exact h.go rfl (fun _ _ e _=>e) fun b z=>.inl (.inr z)
 have kp':∀b o,H b=some o->¬ U O Z b->H' b=some o:=fun b o e n=>kp b o e fun z=>n (by rw[z];exact .inl g2)
 have al:∀b,H b≠none->H' b≠none:=fun b hb=>by
  by_cases e:b=p
  ·rw[e];exact ho.live
  ·cases eb:H b with
   | none=>exact absurd eb hb
   | some o=>rw[kp b o eb e];simp
 have al':∀b,Lv H b->Lv H' b:=fun b hb=>by
  by_cases e:b=p
  ·rw[e];exact ho.lv
  ·exact hb.same fun o eb=>kp b o eb e
 have ex:Ext O H O H':=⟨fun b o e n=>kp b o e fun z=>n (by rw[z];exact g2),fun b z=>.inl z,al,al'⟩
 have ho':OA K (U O Z) H' p x':=ho.go rfl (fun _ _ e _=>e) fun b z=>.inl (a2 b z);have mkE:∀(O2:AS),(∀b,O b->O2 b)->(∀b,O2 b->O b∨H b=none)->(∀b,O2 b->¬ Z b)->(∀b,O2 b->Lv H' b)->OA K (U O2 Z) H' p x'->ER K (st.set i (s.put x')) σ H' O2 Z:=fun O2 up dn ds lv ho2=>by
  have nn:∀b,U O2 Z b->U O Z b∨H b=none:=fun b z=>z.elim (fun y=>(dn b y).elim (fun w=>.inl (.inl w)) .inr) fun y=>.inl (.inr y);refine⟨by simp[E.len],fun j d hj=>?_,fun j t d hj ht=>?_,fun j k t t' d d' r hj ht hk ht' e1 e2=>?_,ds,fun r hr=>hr.elim (lv r) fun y=>al' r (E.liv r (.inr y))⟩
  ·by_cases e:i=j
   ·subst e;rw[bn hs]at hj;exact absurd (Option.some.inj hj) (Sl.put_v _ _ _)
   ·rw[aG e]at hj;obtain⟨v,h1,h2⟩:=E.val j d hj;exact⟨v,h1,h2.go kp' nn⟩
  ·by_cases e:i=j
   ·subst e;rw[bn hs]at hj;have:=Option.some.inj hj;subst this;rw[Sl.put_ow]at ht;cases ht;exact⟨p,g1,up p g2,ho2⟩
   ·rw[aG e]at hj;obtain⟨r,h1,h2,h3⟩:=E.own j t d hj ht;have hne:r≠p:=fun z=>by subst z;exact e (E.uni i j s t x d r hs hx hj ht g1 h1)
    refine⟨r,h1,up r h2,h3.go ?_ kp' nn⟩;cases er:H r with
    | none=>exact absurd er h3.live
    | some o=>exact kp r o er hne
  ·have own':∀(m:Nat)(t:Sl)(d:D),(st.set i (s.put x'))[m]?=some t->t.ow=some d->∃t2 d2,st[m]?=some t2/\t2.ow=some d2:=fun m t d hm ht=>by
    by_cases e:i=m
    ·subst e;exact⟨s,x,hs,hx⟩
    ·rw[aG e]at hm;exact⟨t,d,hm,ht⟩
   obtain⟨t1,d1,a1,b1⟩:=own' j t d hj ht;obtain⟨t2,d2,a2,b2⟩:=own' k t' d' hk ht';exact E.uni j k t1 t2 d1 d2 r a1 b1 a2 b2 e1 e2
 have kk:Kp st (st.set i (s.put x')):=by
  refine⟨by simp,fun j t hj ht=>?_,fun j d hj=>?_⟩
  ·by_cases e:i=j
   ·subst e;exact⟨s.put x',bn hs,by cases s<;>simp[Sl.put,Sl.get]⟩
   ·exact⟨t,by rw[aG e];exact hj,ht⟩
  ·by_cases e:i=j
   ·subst e;rw[hs]at hj;cases hj;exact⟨x',bn hs⟩
   ·exact⟨d,by rw[aG e];exact hj⟩
 have E':=mkE O (fun _ z=>z) (fun _ z=>.inl z) E.dis (fun b z=>al' b (E.liv b (.inl z))) ho';refine q u H' O ex kk E' ?_ ?_
 rotate_left
 ·obtain⟨dz,fr⟩:=z;cases fr with
  | false=>trivial
  | true=>obtain⟨r,rfl,hr,_⟩:=hres;exact fun q e=>by cases e;exact hr
 obtain⟨dz,fr⟩:=z;cases fr with
 | false=>exact DA.less (show DA K _ H' u dz from hres.1) a2
 | true =>
  obtain⟨r,rfl,hr,hor,hof⟩:=hres;have hf:=E.free hr;have a3:∀b,ins r (U O Z) b->ins r (ins p fun b=>U O Z b/\b≠p) b:=fun b z=>z.elim .inl fun y=>.inr (a2 b y);refine⟨r,rfl,hf.1,hf.2,hor.go rfl (fun _ _ e _=>e) (fun b z=>.inl (a3 b z)),mkE (ins r O) (fun _ z=>.inr z) (fun b z=>z.elim (fun y=>.inr (by rw[y];exact hr)) .inl) (fun b z=>z.elim (fun y=>by rw[y];exact hf.2) (E.dis b)) (fun b z=>z.elim (fun y=>by rw[y];exact hor.lv) fun y=>al' b (E.liv b (.inl y))) ?_⟩
  exact hof.go rfl (fun _ _ e _=>e) fun b z=>.inl (a3 b (z.elim (fun y=>y.elim .inl fun w=>.inr (.inl w)) fun y=>.inr (.inr y)))
noncomputable def fIO(g:D->List D->Option (Rz×D))(i:Nat)(fr:FA):FE:=fun st=>(st[i]?).bind fun s0=>(s0.ow).bind fun _=>(fr st).bind fun x=>(ef x.1 x.2).bind fun y=>(y.2[i]?).bind fun s=>(s.ow).bind fun d=>(g d y.1).bind fun z=>some (mk z.1,y.2.set i (s.put z.2))
theorem de{g:D->List D->Option (Rz×D)}{i:Nat}{tr:TA}{fr:FA}(hr:RdA K tr fr):RdE K (wH (mx K g) (kz (tK i) tr)) (fIO g i fr):=by
 intro st σ H O Z Q E r0 st' h q;refine bsO h fun s0 f1 h=>?_;refine bsO h fun x0 f2 h=>?_;refine bsP h fun rs st1 e1 h=>?_;refine bsP h fun ds st2 e2 h=>?_;refine bsO h fun s e3 h=>?_;refine bsO h fun x e4 h=>?_;refine bsP h fun z x' e5 h=>?_;cases h;obtain⟨p,g1,_,_⟩:=E.own i s0 x0 f1 f2;refine⟨.ref p,g1,?_⟩;refine hr st σ H O Z _ E rs st1 e1 fun vs H1 O1 x1 k1 E1 rvs=>?_;obtain⟨O2,x2,k2,E2,el⟩:=rvs.esc E1 e2;exact rN E2 e3 e4 g1 el e5 fun v H' O' ex kk E' rv w=>q v H' O' ((x1.trans x2).trans ex) ((k1.trans k2).trans kk) E' rv (w.back (x1.trans x2))
end
end VF
namespace VF
open PySem L2
structure Kq(st:En)(σ:St)(st':En)(σ':St):Prop where
 len:st'.length=st.length
 io:∀(i:Nat) d,st[i]?=some (.io d)->σ'[i]?=σ[i]?/\∃d',st'[i]?=some (.io d')
theorem Kq.refl(st:En)(σ:St):Kq st σ st σ:=⟨rfl,fun i d h=>⟨rfl,d,h⟩⟩
theorem Kq.trans{a b c:En}{x y z:St}(h:Kq a x b y)(g:Kq b y c z):Kq a x c z:=by
 refine⟨g.len.trans h.len,fun i d e=>?_⟩;obtain⟨e1,d1,e2⟩:=h.io i d e;obtain⟨e3,d2,e4⟩:=g.io i d1 e2;exact⟨e3.trans e1,d2,e4⟩
theorem Kp.kq{st st':En}{σ:St}(k:Kp st st'):Kq st σ st' σ:=⟨k.len,fun i d h=>⟨rfl,k.io i d h⟩⟩
noncomputable abbrev FG:=D->En->Option En
noncomputable def RdG(K:PySem.W.Frag)(g:TG)(fg:FG)(tg:List Nat):Prop:=∀(st:En)(σ:St)(H:Hp)(O Z:AS)(x:V)(d:D)(Q:St->Hp->Prop),ER K st σ H O Z->DA K (U O Z) H x d->∀st',fg d st=some st' ->
 (∀σ',(∀j,j∉tg->σ'[j]?=σ[j]?/\st'[j]?=st[j]?)->Kq st σ st' σ'->ER K st' σ' H O Z->Q σ' H)->g x σ H Q
noncomputable def Sl.isIo:Sl->Bool
 | .io _=>true
 | _=>false
noncomputable def qq(i:Nat)(s:Sl)(st:En):Option En:=(st[i]?).bind fun t=>if t.isIo=true then none else some (st.set i s)
section
variable {K:PySem.W.Frag}{Y Y' O O' O1 O2 Z:AS}{H H' H1 H2:Hp}{v:V}{d:D}{vs:List V}{ds:List D}{a p:Addr}{st st' st1 st2:En}{σ σ':St}
theorem mQ{i:Nat}{s:Sl}(h:qq i s st=some st'):∃t,st[i]?=some t/\t.isIo=false/\st'=st.set i s:=by
 refine bsO h fun t e h=>?_;by_cases c:t.isIo=true
 ·simp only[if_pos c]at h;cases h
 ·simp only[if_neg c]at h;cases h;exact⟨t,e,by simpa using c,rfl⟩
theorem qr{i:Nat}{s t:Sl}{w:Option V}(e:st[i]?=some t)(n:t.isIo=false):Kq st σ (st.set i s) (σ.set i w):=by
 refine⟨by simp,fun j d h=>?_⟩
 have q:i≠j:=fun z=>by subst z;rw[e]at h;cases h;cases n
 exact⟨aG q,d,by rw[aG q];exact h⟩
theorem ER.asg{i:Nat}{t:Sl}(E:ER K st σ H O Z)(e:st[i]?=some t)(h:DA K (U O Z) H v d):ER K (st.set i (.v d)) (σ.set i (some v)) H O Z:=by
 have hi:i<σ.length:=by rw[← E.len];exact(Yb.mp e).1
 have sg:(σ.set i (some v))[i]?=some (some v):=by rw[List.getElem?_set,if_pos rfl,if_pos hi]
 have ne:∀(j:Nat) s x,(st.set i (.v d))[j]?=some s->s.ow=some x->i≠j/\st[j]?=some s:=fun j s x h1 h2=>by
  by_cases q:i=j
  ·subst q;rw[bn e]at h1;cases h1;cases h2
  ·exact⟨q,by rw[aG q]at h1;exact h1⟩
 refine⟨by simp[E.len],fun j x hj=>?_,fun j s x h1 h2=>?_,fun j k s s' x x' r h1 h2 h3 h4 h5 h6=>?_,E.dis,E.liv⟩
 ·by_cases q:i=j
  ·subst q;rw[bn e]at hj;cases hj;exact⟨v,sg,h⟩
  ·rw[aG q]at hj;obtain⟨w,g1,g2⟩:=E.val j x hj;exact⟨w,by rw[aG q];exact g1,g2⟩
 ·obtain⟨q,h1⟩:=ne j s x h1 h2;obtain⟨r,g1,g2⟩:=E.own j s x h1 h2;exact⟨r,by rw[aG q];exact g1,g2⟩
 ·obtain⟨q1,h1⟩:=ne j s x h1 h2;obtain⟨q2,h3⟩:=ne k s' x' h3 h4;rw[aG q1]at h5;rw[aG q2]at h6;exact E.uni j k s s' x x' r h1 h2 h3 h4 h5 h6
theorem ER.asgF{i:Nat}{t:Sl}{x:D}(E0:ER K st σ H O Z)(E:ER K st σ H (ins p O) Z)(np:¬ O p)(e:st[i]?=some t)(h:OA K (ins p (U O Z)) H p x):ER K (st.set i (.o x)) (σ.set i (some (.ref p))) H (ins p O) Z:=by
 have hi:i<σ.length:=by rw[← E.len];exact(Yb.mp e).1
 have sg:(σ.set i (some (V.ref p)))[i]?=some (some (.ref p)):=by rw[List.getElem?_set,if_pos rfl,if_pos hi]
 have fresh:∀(j:Nat) s y,st[j]?=some s->s.ow=some y->σ[j]?≠some (some (.ref p)):=fun j s y h1 h2 z=>by
  obtain⟨r,g1,g2,_⟩:=E0.own j s y h1 h2;rw[z]at g1;cases g1;exact np g2
 refine⟨by simp[E.len],fun j y hj=>?_,fun j s y h1 h2=>?_,fun j k s s' y y' r h1 h2 h3 h4 h5 h6=>?_,E.dis,E.liv⟩
 ·by_cases q:i=j
  ·subst q;rw[bn e]at hj;cases hj
  ·rw[aG q]at hj;obtain⟨w,g1,g2⟩:=E.val j y hj;exact⟨w,by rw[aG q];exact g1,g2⟩
 ·by_cases q:i=j
  ·subst q;rw[bn e]at h1;cases h1;cases h2;refine⟨p,sg,.inl rfl,h.go rfl (fun _ _ e _=>e) fun b z=>.inl ?_⟩;rcases z with(z|z)|z
   ·exact .inl z
   ·exact .inr (.inl z)
   ·exact .inr (.inr z)
  ·rw[aG q]at h1;obtain⟨r,g1,g2⟩:=E.own j s y h1 h2;exact⟨r,by rw[aG q];exact g1,g2⟩
 ·by_cases q1:i=j
  ·by_cases q2:i=k
   ·exact q1.symm.trans q2
   ·subst q1;rw[aG q2]at h3 h6;rw[sg]at h5;cases h5;exact absurd h6 (fresh k s' y' h3 h4)
  ·by_cases q2:i=k
   ·subst q2;rw[aG q1]at h1 h5;rw[sg]at h6;cases h6;exact absurd h5 (fresh j s y h1 h2)
   ·rw[aG q1]at h1 h5;rw[aG q2]at h3 h6;exact E.uni j k s s' y y' r h1 h2 h3 h4 h5 h6
noncomputable def gN(i:Nat):FG:=fun d st=>qq i (.v d) st
theorem bK(i:Nat):RdG K (nr i) (gN i) [i]:=by
 intro st σ H O Z x d Q E da st' h q;obtain⟨t,e,n,rfl⟩:=mQ h;refine q (σ.set i (some x)) (fun j hj=>?_) (qr e n) (E.asg e da);have q:i≠j:=fun z=>hj (by rw[z];simp)
 exact⟨aG q,aG q⟩
noncomputable def AR(K:PySem.W.Frag)(g:TGs)(fg:List D->En->Option En)(tg:List Nat):Prop:=∀(st:En)(σ:St)(H:Hp)(O Z:AS)(xs:List V)(ds:List D)(Q:St->Hp->Prop),ER K st σ H O Z->El K (U O Z) H xs ds->∀st',fg ds st=some st' ->
 (∀σ',(∀j,j∉tg->σ'[j]?=σ[j]?/\st'[j]?=st[j]?)->Kq st σ st' σ'->ER K st' σ' H O Z->Q σ' H)->g xs σ H Q
noncomputable def gsN:List D->En->Option En:=fun ds st=>match ds with
 | []=>some st
 | _=>none
theorem qt:AR K Fb gsN []:=by
 intro st σ H O Z xs ds Q E el st' h q;cases ds with
 | nil =>
  cases h;exact⟨el.unnil,q σ (fun j _=>⟨rfl,rfl⟩) (Kq.refl _ _) E⟩
 | cons d ds=>cases h
noncomputable def gsC(fg:FG)(fgs:List D->En->Option En):List D->En->Option En:=fun ds st=>match ds with
 | d::r=>(fg d st).bind fun st1=>fgs r st1
 | []=>none
theorem gu{g:TG}{gs:TGs}{fg:FG}{fgs:List D->En->Option En}{t1 t2:List Nat}(h1:RdG K g fg t1)(h2:AR K gs fgs t2):AR K (Ca g gs) (gsC fg fgs) (t1++t2):=by
 intro st σ H O Z xs ds Q E el st' h q;cases ds with
 | nil=>cases h
 | cons d ds =>
  refine bsO h fun st1 e1 h=>?_;obtain⟨v,r,rfl,da,el⟩:=el.uncons;refine⟨v,r,rfl,h1 st σ H O Z v d _ E da st1 e1 fun σ1 k1 q1 E1=>?_⟩;refine h2 st1 σ1 H O Z r ds _ E1 el st' h fun σ2 k2 q2 E2=>q σ2 (fun j hj=>?_) (q1.trans q2) E2;have a:=k1 j fun z=>hj (Vi _ z);have b:=k2 j fun z=>hj (Wd _ z);exact⟨b.1.trans a.1,b.2.trans a.2⟩
noncomputable def gT(n:Nat)(fgs:List D->En->Option En):FG:=fun d st=>match d with
 | .tup ds=>if ds.length=n then fgs ds st else none
 | _=>none
theorem tZ{n:Nat}{gs:TGs}{fgs:List D->En->Option En}{t:List Nat}(h:AR K gs fgs t):RdG K (C6 K n gs) (gT n fgs) t:=by
 intro st σ H O Z x d Q E da st' e q;cases d with
 | tup ds =>
  obtain⟨hn,e⟩:=aR e;cases da with
  | tup h1 h2 h3=>exact⟨_,_,rfl,h1.sq,h2.trans hn,h st σ H O Z _ ds Q E ⟨h2,h3⟩ st' e q⟩
 | _=>cases e
noncomputable abbrev FI:=En->Option (List D×En)
noncomputable def Fw(K:PySem.W.Frag)(Z:AS)(J:It)(items:List D)(H:Hp)(O:AS):Prop:=∀H' O',Ext O H O' H'->(∀p,U O' Z p->Lv H' p)->(∀i,items.length<=i->J.stop i H')/\∀(i:Nat) d,items[i]?=some d->J.go i H'/\∀x H'',J.yld i H' x H''->Same H' H''/\DA K (U O' Z) H'' x d
noncomputable def RdI(K:PySem.W.Frag)(wi:TI)(fi:FI):Prop:=∀(st:En)(σ:St)(H:Hp)(O Z:AS)(R:It->Hp->Prop),ER K st σ H O Z->∀items st',fi st=some (items,st') ->
 (∀J H' O',Ext O H O' H'->Kp st st'->ER K st' σ H' O' Z->Fw K Z J items H' O'->R J H')->wi σ H R
noncomputable def esc(r:Rs)(st:En):Option (D×En):=(cont st r).bind fun d=>(x8 st r).bind fun st1=>some (d,st1)
theorem RVal.esc{r:Rs}(h:RVal K Z st σ H O v r)(E:ER K st σ H O Z)(e:esc r st=some (d,st')):∃O',Ext O H O' H/\Kp st st'/\ER K st' σ H O' Z/\DA K (U O' Z) H v d:=by
 refine bsO e fun x e1 e=>?_;refine bsO e fun s1 e2 e=>?_;cases e;exact h.frz E e2 e1
noncomputable def D.its:D->Option (List D)
 | .lst ds=>some ds
 | .fl ds=>some ds
 | _=>none
noncomputable def D.itt:D->Option (List D)
 | .tup ds=>some ds
 | _=>none
noncomputable def fIL(fe:FE):FI:=fun st=>(fe st).bind fun x=>(esc x.1 x.2).bind fun y=>(y.1.its).bind fun ds=>some (ds,y.2)
theorem AT{te:TE}{fe:FE}(h:RdE K te fe):RdI K (uP K te) (fIL fe):=by
 intro st σ H O Z R E items st' e q;refine bsP e fun r st1 e1 e=>?_;refine bsP e fun d st2 e2 e=>?_;refine bsO e fun ds e3 e=>?_;cases e;refine h st σ H O Z _ E r st1 e1 fun v H1 O1 x1 k1 E1 rv w1=>?_;obtain⟨O2,x2,k2,E2,da⟩:=rv.esc E1 e2;have fin:∀{a:Addr}{vs:List V},El K (U O2 Z) H1 vs items->(∀H' O',Ext O2 H1 O' H'->SqL K H' a vs)->uP K (fun _ H Q=>Q (.ref a) H) σ H1 R:=fun {a vs} el sq=>by
  refine⟨a,rfl,⟨vs,sq H1 O2 (Ext.refl _ _)⟩,q _ H1 O2 (x1.trans x2) (k1.trans k2) E2 fun H' O' ex _=>?_⟩;have g1:=sq H' O' ex;have el':=el.ext ex;have hl:=el.1;refine⟨fun i hi=>⟨vs,g1,by lia⟩,fun i d hd=>?_⟩
  obtain⟨v,hv,hdv⟩:=el'.at hd;refine⟨⟨vs,v,g1,hv⟩,fun x H'' hx=>?_⟩;obtain⟨rfl,hx⟩:=hx;have:=hx vs g1;rw[hv]at this;cases this;exact⟨Same.refl _,hdv⟩
 cases d with
 | lst ds' =>
  cases e3;cases da with
  | @lst a vs _ h0 h1 h2 h3=>exact fin ⟨h2,h3⟩ fun H' O' ex=>.inl (.inl (ex.kp a _ h1 fun z=>h0 (.inl z)))
 | fl ds' =>
  cases e3;cases da with
  | @fl a vs _ h1 h2 h3 =>
   refine fin ⟨h2,h3⟩ fun H' O' ex=>?_;rcases h1 with⟨h1,hn⟩|h1
   ·exact .inl (Rd.keep h1 fun o e=>ex.kp a o e fun z=>hn (.inl z))
   ·exact h1 H'
 | _=>cases e3
noncomputable def fIT(fe:FE):FI:=fun st=>(fe st).bind fun x=>(esc x.1 x.2).bind fun y=>(y.1.itt).bind fun ds=>some (ds,y.2)
theorem DF{te:TE}{fe:FE}(h:RdE K te fe):RdI K (C8 K te) (fIT fe):=by
 intro st σ H O Z R E items st' e q;refine bsP e fun r st1 e1 e=>?_;refine bsP e fun d st2 e2 e=>?_;refine bsO e fun ds e3 e=>?_;cases e;refine h st σ H O Z _ E r st1 e1 fun v H1 O1 x1 k1 E1 rv w1=>?_;obtain⟨O2,x2,k2,E2,da⟩:=rv.esc E1 e2;cases d with
 | tup ds' =>
  cases e3;cases da with
  | @tup a vs _ h1 h2 h3 =>
   refine⟨a,rfl,⟨vs,h1.sq⟩,q _ H1 O2 (x1.trans x2) (k1.trans k2) E2 fun H' O' ex _=>?_⟩;have da':=(DA.tup h1 h2 h3).ext ex;cases da' with
   | @tup _ ws _ g1 g2 g3 =>
    refine⟨fun i hi=>⟨ws,g1.sq,by lia⟩,fun i d hd=>?_⟩
    obtain⟨v,hv,hdv⟩:=El.at ⟨g2,g3⟩ hd;refine⟨⟨ws,v,g1.sq,hv⟩,fun x H'' hx=>?_⟩;obtain⟨rfl,hx⟩:=hx;have:=hx ws g1.sq;rw[hv]at this;cases this;exact⟨Same.refl _,hdv⟩
 | _=>cases e3
noncomputable def rng(lo:Int)(n:Nat):List D:=(List.range n).map fun(i:Nat)=>D.int (lo+(i:Int))
theorem x9{lo:Int}{n i:Nat}{d:D}(h:(rng lo n)[i]?=some d):i<n/\d=.int (lo+i):=by
 unfold rng at h;rw[Wc]at h;by_cases hi:i<n
 ·rw[List.getElem?_range hi]at h;exact⟨hi,(Option.some.inj h).symm⟩
 ·rw[Wn (by simpa using hi)]at h;cases h
theorem fQ(lo:Int)(n:Nat):(rng lo n).length=n:=by simp[rng]
theorem yb{lo:Int}{n:Nat}:Fw K Z (Itr lo n) (rng lo n) H O:=fun H' O' ex _=>by
 refine⟨fun i hi=>by rw[fQ]at hi;exact hi,fun i d hd=>?_⟩
 obtain⟨h1,rfl⟩:=x9 hd;refine⟨h1,fun x H'' hx=>?_⟩;obtain⟨rfl,rfl⟩:=hx;exact⟨Same.refl _,.int _⟩
noncomputable def DG:List D->Option Int
 | [.int j]=>some j
 | _=>none
noncomputable def rO(fa:FA):FI:=fun st=>(fa st).bind fun x=>(dQ x.2 x.1).bind fun ds=>(DG ds).bind fun j=>if -(2 ^ 62)<=j/\j<2 ^ 62 then some (rng 0 j.toNat,x.2) else none
theorem mR{ta:TA}{fa:FA}(h:RdA K ta fa):RdI K (Cb ta) (rO fa):=by
 intro st σ H O Z R E items st' e q;refine bsP e fun rs st1 e1 e=>?_;refine bsO e fun ds e2 e=>?_;refine bsO e fun j e3 e=>?_;obtain⟨hc,e⟩:=aR e;cases e;refine h st σ H O Z _ E rs _ e1 fun vs H1 O1 x1 k1 E1 rvs=>?_;have bs:=rvs.bas E1 e2;have ed:ds=[.int j]:=by
  unfold DG at e3;split at e3
  ·cases e3;rfl
  ·cases e3
 subst ed;cases bs with
 | cons b1 b2 =>
  cases b2;obtain rfl:=(show _=V.int j from b1);exact⟨j,rfl,hc.1,hc.2,q _ H1 O1 x1 k1 E1 yb⟩
noncomputable def rP(x:Str):List D:=x.cps.toList.map fun c=>D.str ⟨#[c]⟩
noncomputable def fIS(fe:FE):FI:=fun st=>(fe st).bind fun x=>match cont x.2 x.1 with
 | some (.str z)=>some (rP z,x.2)
 | _=>none
set_option tactic.hygienic true in
theorem DH{te:TE}{fe:FE}(h:RdE K te fe):RdI K (Dz te) (fIS fe):=by
 intro st σ H O Z R E items st' e q;refine bsP e fun r st1 e1 e=>?_;refine h st σ H O Z _ E r st1 e1 fun v H1 O1 x1 k1 E1 rv w1=>?_;dsimp only at e;split at e
 ·rename_i z ez
  cases e;have ev:v=.str z:=rv.ba E1 ez;refine⟨z,ev,q _ H1 O1 x1 k1 E1 fun H' O' ex _=>⟨fun i hi=>?_,fun i d hd=>?_⟩⟩
  ·show z.cps.size<=i;simpa[rP]using hi
  ·unfold rP at hd;rw[Wc]at hd;obtain⟨c,hc,rfl⟩:=Xd.mp hd;have hc':z.cps[i]?=some c:=by simpa using hc
   refine⟨(Array.getElem?_eq_some_iff.mp hc').1,fun x H'' hx=>?_⟩;obtain⟨rfl,c',h1,rfl⟩:=hx;rw[hc']at h1;cases h1;exact⟨Same.refl _,.str _⟩
 ·cases e
inductive Ot where
 | nx (st:En)|rt (r:Rs) (st:En)|bk (st:En)|ct (st:En)
noncomputable abbrev FS:=En->Option Ot
noncomputable def Out(K:PySem.W.Frag)(Z O:AS)(H:Hp)(st:En)(σ:St)(Dn:Ends):Ot->Prop
 | .nx st'=>∀σ' H' O',Ext O H O' H'->Kq st σ st' σ'->ER K st' σ' H' O' Z->Dn.nx σ' H'
 | .rt r st'=>∀v σ' H' O',Ext O H O' H'->Kq st σ st' σ'->ER K st' σ' H' O' Z->RVal K Z st' σ' H' O' v r->Fsh H v r->Dn.rt v H'
 | .bk st'=>∀σ' H' O',Ext O H O' H'->Kq st σ st' σ'->ER K st' σ' H' O' Z->Dn.bk σ' H'
 | .ct st'=>∀σ' H' O',Ext O H O' H'->Kq st σ st' σ'->ER K st' σ' H' O' Z->Dn.ct σ' H'
noncomputable def RdS(K:PySem.W.Frag)(ts:TS)(F:FS):Prop:=∀(st:En)(σ:St)(H:Hp)(O Z:AS)(Dn:Ends),ER K st σ H O Z->∀o,F st=some o->Out K Z O H st σ Dn o->ts Dn σ H
theorem Out.trans{Dn:Ends}{o:Ot}(h:Out K Z O H st σ Dn o)(x:Ext O H O1 H1)(k:Kq st σ st1 σ'):Out K Z O1 H1 st1 σ' Dn o:=by
 cases o with
 | nx s=>exact fun σ2 H2 O2 x2 k2 E2=>h σ2 H2 O2 (x.trans x2) (k.trans k2) E2
 | bk s=>exact fun σ2 H2 O2 x2 k2 E2=>h σ2 H2 O2 (x.trans x2) (k.trans k2) E2
 | ct s=>exact fun σ2 H2 O2 x2 k2 E2=>h σ2 H2 O2 (x.trans x2) (k.trans k2) E2
 | rt r s=>exact fun v σ2 H2 O2 x2 k2 E2 rv w=>h v σ2 H2 O2 (x.trans x2) (k.trans k2) E2 rv (w.back x)
noncomputable def cw:FS:=fun st=>some (.nx st)
theorem bA:RdS K B8 cw:=by
 intro st σ H O Z Dn E o e q;cases e;exact q σ H O (Ext.refl _ _) (Kq.refl _ _) E
noncomputable def aS(F G:FS):FS:=fun st=>(F st).bind fun o=>match o with
 | .nx s=>G s
 | o=>some o
theorem aE{t u:TS}{F G:FS}(h1:RdS K t F)(h2:RdS K u G):RdS K (EZ t u) (aS F G):=by
 intro st σ H O Z Dn E o e q;refine bsO e fun o1 e1 e=>?_;refine h1 st σ H O Z _ E o1 e1 ?_;cases o1 with
 | nx s=>exact fun σ1 H1 O1 x1 k1 E1=>h2 s σ1 H1 O1 Z Dn E1 o e (q.trans x1 k1)
 | bk s=>cases e;exact q
 | ct s=>cases e;exact q
 | rt r s=>cases e;exact q
noncomputable def dR(fe:FE):FS:=fun st=>(fe st).bind fun x=>some (.nx x.2)
theorem dS{te:TE}{fe:FE}(h:RdE K te fe):RdS K (B9 te) (dR fe):=by
 intro st σ H O Z Dn E o e q;refine bsP e fun r st1 e1 e=>?_;cases e;exact h st σ H O Z _ E r st1 e1 fun v H1 O1 x1 k1 E1 rv w1=>q σ H1 O1 x1 k1.kq E1
noncomputable def bE(fe:FE):FS:=fun st=>(fe st).bind fun x=>some (.rt x.1 x.2)
theorem aK{te:TE}{fe:FE}(h:RdE K te fe):RdS K (E8 te) (bE fe):=by
 intro st σ H O Z Dn E o e q;refine bsP e fun r st1 e1 e=>?_;cases e;exact h st σ H O Z _ E r st1 e1 fun v H1 O1 x1 k1 E1 rv w1=>q v σ H1 O1 x1 k1.kq E1 rv w1
noncomputable def sIf(f:FT)(F G:FS):FS:=fun st=>(f st).bind fun x=>if x.1=true then F x.2 else G x.2
theorem cA{c:TT}{f:FT}{t u:TS}{F G:FS}(hc:RdT K c f)(h1:RdS K t F)(h2:RdS K u G):RdS K (E9 c t u) (sIf f F G):=by
 intro st σ H O Z Dn E o e q;refine bsP e fun b st1 e1 e=>?_;refine hc st σ H O Z _ E b st1 e1 fun H1 O1 x1 k1 E1=>?_;cases b with
 | true =>
  rw[if_pos rfl]at e ⊢;exact h1 st1 σ H1 O1 Z Dn E1 o e (q.trans x1 k1.kq)
 | false =>
  simp only[Qe,if_false]at e ⊢;exact h2 st1 σ H1 O1 Z Dn E1 o e (q.trans x1 k1.kq)
noncomputable def bU(fe:FE)(i:Nat):FS:=fun st=>(fe st).bind fun x=>match x.1 with
 | .d y=>(qq i (.v y) x.2).bind fun s=>some (.nx s)
 | .f y=>(qq i (.o y) x.2).bind fun s=>some (.nx s)
 | .s j=>(esc (.s j) x.2).bind fun y=>(qq i (.v y.1) y.2).bind fun s=>some (.nx s)
theorem aX{te:TE}{fe:FE}{i:Nat}(h:RdE K te fe):RdS K (wp te (nr i)) (bU fe i):=by
 intro st σ H O Z Dn E o e q;refine bsP e fun r st1 e1 e=>?_;refine h st σ H O Z _ E r st1 e1 fun v H1 O1 x1 k1 E1 rv w1=>?_;show Dn.nx (σ.set i (some v)) H1;cases r with
 | d y =>
  refine bsO e fun s e2 e=>?_;cases e;obtain⟨t,f1,f2,rfl⟩:=mQ e2;exact q _ H1 O1 x1 (k1.kq.trans (qr f1 f2)) (E1.asg f1 rv)
 | f y =>
  refine bsO e fun s e2 e=>?_;cases e;obtain⟨t,f1,f2,rfl⟩:=mQ e2;obtain⟨p,rfl,np,nz,ho,E2⟩:=rv;have hp:H p=none:=w1 p rfl;exact q _ H1 (ins p O1) ⟨x1.kp,fun b z=>z.elim (fun y=>by rw[y];exact .inr hp) (x1.nw b),x1.al,x1.lv⟩ (k1.kq.trans (qr f1 f2)) (E1.asgF E2 np f1 ho)
 | s j =>
  refine bsP e fun d st2 e2 e=>?_;refine bsO e fun s e3 e=>?_;cases e;obtain⟨O2,x2,k2,E2,da⟩:=rv.esc E1 e2;obtain⟨t,f1,f2,rfl⟩:=mQ e3;exact q _ H1 O2 (x1.trans x2) ((k1.kq.trans k2.kq).trans (qr f1 f2)) (E2.asg f1 da)
end
end VF
namespace VF
open PySem L2
section
variable {K:PySem.W.Frag}{Y Y' O O' O1 O2 Z:AS}{H H' H1 H2:Hp}{v:V}{d:D}{vs:List V}{ds:List D}{a p:Addr}{st st' st1 st2:En}{σ σ':St}
noncomputable def ii(fg:FG)(B:FS):List D->FS
 | [],st=>some (.nx st)
 | x::r,st=>(fg x st).bind fun s1=>(B s1).bind fun o=>match o with
  | .nx s2=>ii fg B r s2
  | .ct s2=>ii fg B r s2
  | .bk s2=>some (.nx s2)
  | .rt y s2=>some (.rt y s2)
noncomputable def jx(fi:FI)(fg:FG)(B:FS):FS:=fun st=>(fi st).bind fun x=>ii fg B x.1 x.2
theorem gM{wi:TI}{fi:FI}{g:TG}{fg:FG}{tg:List Nat}{tb:TS}{B:FS}(hi:RdI K wi fi)(hg:RdG K g fg tg)(hb:RdS K tb B):RdS K (Fe wi g tb) (jx fi fg B):=by
 intro st σ H O Z Dn E o e q;refine bsP e fun items st1 e1 e=>?_;refine hi st σ H O Z _ E items st1 e1 fun J H1 O1 x1 k1 E1 it=>?_;have q1:=q.trans x1 (k1.kq (σ:=σ));refine⟨fun i m σ' H'=>m=items.length-i/\i<=items.length/\∃s O',Ext O1 H1 O' H'/\Kq st1 σ s σ'/\ER K s σ' H' O' Z/\ii fg B (items.drop i) s=some o,⟨items.length,by simp,Wh _,st1,O1,Ext.refl _ _,Kq.refl _ _,E1,e⟩,?_⟩
 rintro i m σ' H' ⟨rfl,hle,s,O',x2,k2,E2,e2⟩;obtain⟨stop,go⟩:=it H' O' x2 E2.liv;by_cases hlt:i<items.length
 ·right;have hd:items.drop i=items[i]::items.drop (i+1):=Wm hlt;rw[hd]at e2;refine bsO e2 fun s1 e3 e2=>?_;refine bsO e2 fun o1 e4 e2=>?_;obtain⟨g1,g2⟩:=go i _ (Za hlt);refine⟨g1,fun σ3 H3=>∃s O3,Ext O1 H1 O3 H3/\Kq st1 σ s σ3/\ER K s σ3 H3 O3 Z/\ii fg B (items.drop (i+1)) s=some o,fun σ3 H3 ⟨s3,O3,x3,k3,E3,e3'⟩=>⟨items.length-(i+1),by lia,rfl,hlt,s3,O3,x3,k3,E3,e3'⟩,fun x H'' hy=>?_⟩
  obtain⟨sm,da⟩:=g2 x H'' hy;have xm:Ext O' H' O' H'':=Same.ext sm;refine hg s σ' H'' O' Z x _ _ (E2.same sm) da s1 e3 fun σ4 _ k4 E4=>?_;refine hb s1 σ4 H'' O' Z _ E4 o1 e4 ?_;have xx:=x2.trans xm;cases o1 with
  | nx s2=>exact fun σ5 H5 O5 x5 k5 E5=>⟨s2,O5,xx.trans x5,(k2.trans k4).trans k5,E5,e2⟩
  | ct s2=>exact fun σ5 H5 O5 x5 k5 E5=>⟨s2,O5,xx.trans x5,(k2.trans k4).trans k5,E5,e2⟩
  | bk s2 =>
   cases e2;exact fun σ5 H5 O5 x5 k5 E5=>q1 σ5 H5 O5 (xx.trans x5) ((k2.trans k4).trans k5) E5
  | rt y s2 =>
   cases e2;exact fun v σ5 H5 O5 x5 k5 E5 rv w=>q1 v σ5 H5 O5 (xx.trans x5) ((k2.trans k4).trans k5) E5 rv (w.back xx)
 ·left;have hn:items.drop i=[]:=List.drop_eq_nil_of_le (by lia)
  rw[hn]at e2;cases e2;exact⟨stop i (by lia),q1 σ' H' O' x2 k2 E2⟩
noncomputable def sWh(f:FT)(B:FS):Nat->FS
 | 0,_=>none
 | n+1,st=>(f st).bind fun x=>if x.1=true then(B x.2).bind fun o=>match o with
   | .nx s2=>sWh f B n s2
   | .ct s2=>sWh f B n s2
   | .bk s2=>some (.nx s2)
   | .rt y s2=>some (.rt y s2)
  else some (.nx x.2)
theorem kJ(n:Nat){c:TT}{f:FT}{tb:TS}{B:FS}(hc:RdT K c f)(hb:RdS K tb B):RdS K (xD c tb) (sWh f B n):=by
 intro st σ H O Z Dn E o e q;refine⟨fun m σ' H'=>∃s O',Ext O H O' H'/\Kq st σ s σ'/\ER K s σ' H' O' Z/\sWh f B m s=some o,⟨n,st,O,Ext.refl _ _,Kq.refl _ _,E,e⟩,?_⟩;rintro m σ' H' ⟨s,O',x2,k2,E2,e2⟩;cases m with
 | zero=>cases e2
 | succ m =>
  refine bsP e2 fun b s1 e3 e2=>?_;refine hc s σ' H' O' Z _ E2 b s1 e3 fun H3 O3 x3 k3 E3=>?_;have xx:=x2.trans x3;have kk:=k2.trans (k3.kq (σ:=σ'));cases b with
  | false =>
   simp only[Qe,if_false]at e2 ⊢;cases e2;exact q σ' H3 O3 xx kk E3
  | true =>
   rw[if_pos rfl]at e2 ⊢;refine bsO e2 fun o1 e4 e2=>?_;refine⟨fun σ5 H5=>∃s O5,Ext O H O5 H5/\Kq st σ s σ5/\ER K s σ5 H5 O5 Z/\sWh f B m s=some o,fun σ5 H5 h=>⟨m,Qm _,h⟩,?_⟩;refine hb s1 σ' H3 O3 Z _ E3 o1 e4 ?_;cases o1 with
   | nx s2=>exact fun σ5 H5 O5 x5 k5 E5=>⟨s2,O5,xx.trans x5,kk.trans k5,E5,e2⟩
   | ct s2=>exact fun σ5 H5 O5 x5 k5 E5=>⟨s2,O5,xx.trans x5,kk.trans k5,E5,e2⟩
   | bk s2 =>
    cases e2;exact fun σ5 H5 O5 x5 k5 E5=>q σ5 H5 O5 (xx.trans x5) (kk.trans k5) E5
   | rt y s2 =>
    cases e2;exact fun v σ5 H5 O5 x5 k5 E5 rv w=>q v σ5 H5 O5 (xx.trans x5) (kk.trans k5) E5 rv (w.back xx)
structure RdM(K:PySem.W.Frag)(T:String)(r:V->List V->Hp->VK->Prop)(ok:D->Bool)(m:D->List D->Option (D×D)):Prop where
 ty:∀(Y:AS)(H:Hp)(p:Addr)(x:D),OA K Y H p x->ok x=true->tyV K T (.ref p) H
 run:∀(Y:AS)(H:Hp)(p:Addr)(x:D)(vs:List V)(ds:List D)(y x':D)(Q:VK),Y p->OA K Y H p x->El K Y H vs ds->m x ds=some (y,x') ->
  (∀v o,DA K Y (upd H p o) v y->OA K Y (upd H p o) p x'->Q v (upd H p o))->r (.ref p) vs H Q
noncomputable def fM(ok:D->Bool)(m:D->List D->Option (D×D))(i:Nat)(fa:FA):FE:=fun st=>(st[i]?).bind fun s0=>(s0.ow).bind fun x0=>if ok x0=true then(fa st).bind fun x=>(ef x.1 x.2).bind fun y=>(y.2[i]?).bind fun s=>(s.ow).bind fun d=>(m d y.1).bind fun z=>some (.d z.1,y.2.set i (s.put z.2)) else none
theorem my{T:String}{r:V->List V->Hp->VK->Prop}{ok:D->Bool}{m:D->List D->Option (D×D)}{i:Nat}{ta:TA}{fa:FA}(hm:RdM K T r ok m)(ha:RdA K ta fa):RdE K (tBM K T r (tK i) ta) (fM ok m i fa):=by
 intro st σ H O Z Q E r0 st' h q;refine bsO h fun s0 f1 h=>?_;refine bsO h fun x0 f2 h=>?_;obtain⟨hok,h⟩:=aR h;refine bsP h fun rs st1 e1 h=>?_;refine bsP h fun ds st2 e2 h=>?_;refine bsO h fun s e3 h=>?_;refine bsO h fun x e4 h=>?_;refine bsP h fun y x' e5 h=>?_;cases h;obtain⟨p,g1,g2,g3⟩:=E.own i s0 x0 f1 f2;refine⟨.ref p,g1,hm.ty _ _ _ _ g3 hok,?_⟩;refine ha st σ H O Z _ E rs st1 e1 fun vs H1 O1 x1 k1 E1 rvs=>?_;obtain⟨O2,x2,k2,E2,el⟩:=rvs.esc E1 e2;obtain⟨p',j1,j2,j3⟩:=E2.own i s x e3 e4;have ep:p'=p:=by rw[g1]at j1;cases j1;rfl
 subst ep;refine hm.run (U O2 Z) H1 p' x vs ds y x' _ (.inl j2) j3 el e5 fun v o da ho=>?_;obtain⟨E3,x3,k3⟩:=E2.write e3 e4 g1 ho;exact q v _ O2 ((x1.trans x2).trans x3) ((k1.trans k2).trans k3) E3 da True.intro
noncomputable def fM0(ok:D->Bool)(m:D->List D->Option (D×D))(i:Nat):FE:=fun st=>(st[i]?).bind fun s=>(s.ow).bind fun x=>if ok x=true then(m x []).bind fun z=>some (.d z.1,st.set i (s.put z.2)) else none
theorem Co{T:String}{r:V->List V->Hp->VK->Prop}{ok:D->Bool}{m:D->List D->Option (D×D)}{i:Nat}(hm:RdM K T r ok m):RdE K (Fp K T r (tK i)) (fM0 ok m i):=by
 intro st σ H O Z Q E r0 st' h q;refine bsO h fun s e3 h=>?_;refine bsO h fun x e4 h=>?_;obtain⟨hok,h⟩:=aR h;refine bsP h fun y x' e5 h=>?_;cases h;obtain⟨p,g1,g2,g3⟩:=E.own i s x e3 e4;refine⟨.ref p,g1,hm.ty _ _ _ _ g3 hok,?_⟩;refine hm.run (U O Z) H p x [] [] y x' _ (.inl g2) g3 El.nil e5 fun v o da ho=>?_;obtain⟨E3,x3,k3⟩:=E.write e3 e4 g1 ho;exact q v _ O x3 k3 E3 da True.intro
noncomputable def yc(K:PySem.W.Frag)(t:wo)(m:D->D->D->Option D):Prop:=∀(Y:AS)(H:Hp)(p:Addr)(x:D)(k v:V)(dk dv x':D)(Q:Hp->Prop),Y p->OA K Y H p x->BA K Y H k dk->DA K Y H v dv->m x dk dv=some x' ->
 (∀o,OA K Y (upd H p o) p x'->Q (upd H p o))->t (.ref p) k v H Q
noncomputable def mz(m:D->D->D->Option D)(fe:FE)(i:Nat)(fi:FE):FS:=fun st=>(fe st).bind fun x=>(esc x.1 x.2).bind fun y=>(y.2[i]?).bind fun s0=>(s0.ow).bind fun _=>(fi y.2).bind fun w=>(cont w.2 w.1).bind fun dk=>(w.2[i]?).bind fun s=>(s.ow).bind fun z=>(m z dk y.1).bind fun z'=>some (.nx (w.2.set i (s.put z')))
theorem gO{t:wo}{m:D->D->D->Option D}{te ti:TE}{fe fi:FE}{i:Nat}(hm:yc K t m)(he:RdE K te fe)(hi:RdE K ti fi):RdS K (wp te (Fc (tK i) ti t)) (mz m fe i fi):=by
 intro st σ H O Z Dn E o e q;refine bsP e fun r st1 e1 e=>?_;refine bsP e fun dv st2 e2 e=>?_;refine bsO e fun s0 e3 e=>?_;refine bsO e fun x0 e4 e=>?_;refine bsP e fun rk st3 e5 e=>?_;refine bsO e fun dk e6 e=>?_;refine bsO e fun s e7 e=>?_;refine bsO e fun x e8 e=>?_;refine bsO e fun x' e9 e=>?_;cases e;refine he st σ H O Z _ E r st1 e1 fun v H1 O1 x1 k1 E1 rv w1=>?_;obtain⟨O2,x2,k2,E2,da⟩:=rv.esc E1 e2;obtain⟨p,g1,g2,g3⟩:=E2.own i s0 x0 e3 e4;refine⟨.ref p,g1,?_⟩;refine hi st2 σ H1 O2 Z _ E2 rk st3 e5 fun k H3 O3 x3 k3 E3 rk' w3=>?_;obtain⟨p',j1,j2,j3⟩:=E3.own i s x e7 e8;have ep:p'=p:=by rw[g1]at j1;cases j1;rfl
 subst ep;refine hm (U O3 Z) H3 p' x k v dk dv x' _ (.inl j2) j3 (rk'.ba E3 e6) (da.ext x3) e9 fun o ho=>?_;obtain⟨E4,x4,k4⟩:=E3.write e7 e8 g1 ho;exact q σ _ O3 (((x1.trans x2).trans x3).trans x4) (((k1.trans k2).trans k3).trans k4).kq E4
noncomputable def jy(k:Nat)(caps:List Nat)(st:En):En:=List.replicate k Sl.e++caps.map fun i=>(st[i]?).getD .e
noncomputable def rst(k:Nat)(s:En):En:=List.replicate k Sl.e++s.drop k
noncomputable def wb:List Nat->En->En->En
 | i::r,s::sb,st=>wb r sb (st.set i s)
 | _,_,st=>st
noncomputable def db(fg:FG)(fc:FT)(fe:FE)(k:Nat):List D->En->Option (List D×En)
 | [],sb=>some ([],sb)
 | x::r,sb=>(fg x sb).bind fun s1=>(fc s1).bind fun c=>if c.1=true then(fe c.2).bind fun y=>(esc y.1 y.2).bind fun w=>(db fg fc fe k r (rst k w.2)).bind fun z=>some (w.1::z.1,z.2)
  else db fg fc fe k r (rst k c.2)
noncomputable def qu(caps:List Nat)(n:Nat):Bool:=decide caps.Nodup&&caps.all fun i=>decide (i<n)
noncomputable def eN(k:Nat)(caps:List Nat)(fi:FI)(fg:FG)(fc:FT)(fe:FE):FE:=fun st=>(fi st).bind fun x=>if (qu caps x.2.length&&decide (x.1.length<=1000000))=true then(db fg fc fe k x.1 (jy k caps x.2)).bind fun y=>some (.f (.lst y.1),wb caps (y.2.drop k) x.2) else none
theorem t3:∀(caps:List Nat)(sb st:En),(wb caps sb st).length=st.length
 | [],_,_=>by simp[wb]
 | _::_,[],_=>by simp[wb]
 | i::r,s::sb,st=>by rw[wb,t3 r sb];simp
theorem nE:∀(caps:List Nat)(sb st:En){i:Nat},i∉caps->(wb caps sb st)[i]?=st[i]?
 | [],_,_,_,_=>by simp[wb]
 | _::_,[],_,_,_=>by simp[wb]
 | j::r,s::sb,st,i,h=>by
  rw[wb,nE r sb _ (fun z=>h (Xb _ z))];exact aG fun z=>h (by rw[z];simp)
theorem yd:∀(caps:List Nat)(sb st:En){j i:Nat},caps.Nodup->sb.length=caps.length->caps[j]?=some i->i<st.length->(wb caps sb st)[i]?=sb[j]?
 | [],_,_,_,_,_,_,h,_=>by simp at h
 | _::_,[],_,_,_,_,h,_,_=>by simp at h
 | c::r,s::sb,st,0,i,nd,hl,h,hi=>by
  have e:c=i:=by simpa using h
  subst e;rw[wb,nE r sb _ (Vk.mp nd).1];rw[List.getElem?_set,if_pos rfl,if_pos hi];rfl
 | c::r,s::sb,st,j+1,i,nd,hl,h,hi=>by
  rw[wb,yd r sb _ (j:=j) (Vk.mp nd).2 (by simpa using hl) (by simpa using h) (by simpa using hi)];rfl
theorem u7{k:Nat}{caps:List Nat}{j i:Nat}(h:caps[j]?=some i):(jy k caps st)[k+j]?=some ((st[i]?).getD .e):=by
 unfold jy;rw[Ye (by simp),Xh,Nat.add_sub_cancel_left,Wc,h];rfl
theorem kK{k:Nat}{caps:List Nat}{i:Nat}{s:Sl}(h:(jy k caps st)[i]?=some s)(n:s.get≠none):∃j i',i=k+j/\caps[j]?=some i'/\st[i']?=some s:=by
 unfold jy at h;by_cases hi:i<k
 ·rw[Yf (by simpa using hi),Xj,if_pos hi]at h
  cases h;exact absurd rfl n
 ·rw[Ye (by simpa using hi),Xh,Wc]at h
  refine⟨i-k,?_⟩;obtain⟨i',e1,e2⟩:=Xd.mp h;refine⟨i',by lia,e1,?_⟩
  cases q:st[i']? with
  | none=>rw[q]at e2;subst e2;exact absurd rfl n
  | some t=>rw[q]at e2;subst e2;rfl
theorem jR{k:Nat}{caps:List Nat}{j i:Nat}(h:caps[j]?=some i):(blk k caps σ)[k+j]?=some ((σ[i]?).getD none):=by
 unfold blk;rw[Ye (by simp),Xh,Nat.add_sub_cancel_left,Wc,h];rfl
theorem iF{s:Sl}{d:D}(h:s.ow=some d):s.get≠none:=by cases s<;>first|(cases h;done)|simp[Sl.get]
theorem ye{l:List Nat}{j j' i:Nat}(nd:l.Nodup)(h:l[j]?=some i)(h':l[j']?=some i):j=j':=by
 obtain⟨h1,h2⟩:=Yb.mp h;obtain⟨h3,h4⟩:=Yb.mp h';exact(List.getElem_inj nd).mp (h2.trans h4.symm)
noncomputable def Ob(caps:List Nat)(st:En)(σ:St):AS:=fun p=>∃i∈caps,∃s d,st[i]?=some s/\s.ow=some d/\σ[i]?=some (some (.ref p))
noncomputable def Zb(caps:List Nat)(st:En)(σ:St)(O Z:AS):AS:=fun p=>Z p∨(O p/\¬ Ob caps st σ p)
theorem Ob.o{caps:List Nat}(E:ER K st σ H O Z){q:Addr}(h:Ob caps st σ q):O q:=by
 obtain⟨i,_,s,d,h1,h2,h3⟩:=h;obtain⟨p,g1,g2,_⟩:=E.own i s d h1 h2;rw[h3]at g1;cases g1;exact g2
theorem DI{k:Nat}{caps:List Nat}(E:ER K st σ H O Z)(nd:caps.Nodup):ER K (jy k caps st) (blk k caps σ) H (Ob caps st σ) (Zb caps st σ O Z):=by
 have up:∀b,U (Ob caps st σ) (Zb caps st σ O Z) b->U O Z b:=fun b z=>z.elim (fun y=>.inl (Ob.o E y)) fun y=>y.elim .inr fun w=>.inl w.1;refine⟨by simp[jy,blk],fun i d h=>?_,fun i s d h1 h2=>?_,fun i j s t d d' p h1 h2 h3 h4 h5 h6=>?_,fun p h z=>?_,fun p h=>E.liv p (up p h)⟩
 ·obtain⟨j,i',rfl,hc,hs⟩:=kK h (by simp[Sl.get])
  obtain⟨v,g1,g2⟩:=E.val i' d hs;exact⟨v,by rw[jR hc,g1];rfl,g2.less up⟩
 ·obtain⟨j,i',rfl,hc,hs⟩:=kK h1 (iF h2);obtain⟨p,g1,g2,g3⟩:=E.own i' s d hs h2;exact⟨p,by rw[jR hc,g1];rfl,⟨i',Wa hc,s,d,hs,h2,g1⟩,g3.go rfl (fun _ _ e _=>e) fun b z=>.inl (up b z)⟩
 ·obtain⟨j1,i1,rfl,c1,s1⟩:=kK h1 (iF h2);obtain⟨j2,i2,rfl,c2,s2⟩:=kK h3 (iF h4);obtain⟨p1,g1,_⟩:=E.own i1 s d s1 h2;obtain⟨p2,g2,_⟩:=E.own i2 t d' s2 h4;rw[jR c1,g1]at h5;rw[jR c2,g2]at h6;have e1:p1=p:=by simpa using h5
  have e2:p2=p:=by simpa using h6
  subst e1;subst e2;have e:=E.uni i1 i2 s t d d' _ s1 h2 s2 h4 g1 g2;subst e;rw[ye nd c1 c2]
 ·rcases z with z|z
  ·exact E.dis p (Ob.o E h) z
  ·exact z.2 h
theorem yf{k:Nat}{τ τ':St}(E:ER K st τ H O Z)(hl:τ'.length=τ.length)(hk:k<=st.length)(h:∀j,k<=j->τ'[j]?=τ[j]?):ER K (rst k st) τ' H O Z:=by
 have at_:∀(i:Nat) s,(rst k st)[i]?=some s->s.get≠none->k<=i/\st[i]?=some s:=fun i s e n=>by
  unfold rst at e;by_cases hi:i<k
  ·rw[Yf (by simpa using hi),Xj,if_pos hi]at e
   cases e;exact absurd rfl n
  ·rw[Ye (by simpa using hi),Xh,Wf]at e
   have:k+(i-k)=i:=by lia
   rw[this]at e;exact⟨by lia,e⟩
 refine⟨?_,fun i d e=>?_,fun i s d e1 e2=>?_,fun i j s t d d' p e1 e2 e3 e4 e5 e6=>?_,E.dis,E.liv⟩
 ·rw[hl,← E.len];simp[rst];lia
 ·obtain⟨hk,e⟩:=at_ i _ e (by simp[Sl.get])
  obtain⟨v,g1,g2⟩:=E.val i d e;exact⟨v,by rw[h i hk];exact g1,g2⟩
 ·obtain⟨hk,e⟩:=at_ i _ e1 (iF e2);obtain⟨p,g1,g2⟩:=E.own i s d e e2;exact⟨p,by rw[h i hk];exact g1,g2⟩
 ·obtain⟨hk1,e1⟩:=at_ i _ e1 (iF e2);obtain⟨hk2,e3⟩:=at_ j _ e3 (iF e4);rw[h i hk1]at e5;rw[h j hk2]at e6;exact E.uni i j s t d d' p e1 e2 e3 e4 e5 e6
noncomputable def Oo(caps:List Nat)(st:En)(σ:St)(O Oi:AS):AS:=fun p=>Oi p∨(O p/\¬ Ob caps st σ p)
theorem t4{caps:List Nat}{Oi:AS}(E:ER K st σ H O Z)(x:Ext (Ob caps st σ) H Oi H'):Ext O H (Oo caps st σ O Oi) H' :=
 ⟨fun b o e n=>x.kp b o e fun z=>n (Ob.o E z),fun b z=>z.elim (fun y=>(x.nw b y).elim (fun w=>.inl (Ob.o E w)) .inr) fun y=>.inl y.1,x.al,x.lv⟩
theorem yg{k:Nat}{caps:List Nat}{Oi:AS}{sb:En}(E:ER K st σ H O Z)(nd:caps.Nodup)(lt:∀i∈caps,i<st.length)(hl:sb.length=k+caps.length)(x:Ext (Ob caps st σ) H Oi H')(B:ER K sb (blk k caps σ) H' Oi (Zb caps st σ O Z)) :
  ER K (wb caps (sb.drop k) st) σ H' (Oo caps st σ O Oi) Z:=by
 have dl:(sb.drop k).length=caps.length:=by rw[Wj];lia
 have cap:∀(j i:Nat),caps[j]?=some i->(wb caps (sb.drop k) st)[i]?=sb[k+j]?:=fun j i h=>by
  rw[yd caps _ st nd dl h (lt i (Wa h)),Wf]
 have out:∀i,i∉caps->(wb caps (sb.drop k) st)[i]?=st[i]?:=fun i h=>nE caps _ st h;have same:∀b,U (Oo caps st σ O Oi) Z b->U Oi (Zb caps st σ O Z) b:=fun b z=>by
  rcases z with(z|z)|z
  ·exact .inl z
  ·exact .inr (.inr z)
  ·exact .inr (.inl z)
 have kp:∀b o,H b=some o->¬ U O Z b->H' b=some o:=fun b o e n=>x.kp b o e fun z=>n (.inl (Ob.o E z));have nn:∀b,U (Oo caps st σ O Oi) Z b->U O Z b∨H b=none:=fun b z=>by
  rcases z with z|z
  ·exact((t4 E x).nw b z).elim (fun y=>.inl (.inl y)) .inr
  ·exact .inl (.inr z)
 have nob:∀(i:Nat) s d p,i∉caps->st[i]?=some s->s.ow=some d->σ[i]?=some (some (.ref p))->¬ Ob caps st σ p:=fun i s d p hn h1 h2 h3 z=>by
  obtain⟨i0,hm,s0,d0,g1,g2,g3⟩:=z;have:=E.uni i i0 s s0 d d0 p h1 h2 g1 g2 h3 g3;subst this;exact hn hm
 have bget:∀{j i:Nat}{v:V},caps[j]?=some i->(blk k caps σ)[k+j]?=some (some v)->σ[i]?=some (some v):=fun {j i v} hc hb=>by
  rw[jR hc]at hb;have hb':=Option.some.inj hb;cases q:σ[i]? with
  | none=>rw[q]at hb';cases hb'
  | some w=>rw[q]at hb';have:w=some v:=hb';rw[this]
 have own:∀(i:Nat) s d,(wb caps (sb.drop k) st)[i]?=some s->s.ow=some d->(∃j,caps[j]?=some i/\sb[k+j]?=some s)∨(i∉caps/\st[i]?=some s):=fun i s d h1 _=>by
  by_cases hc:i∈caps
  ·obtain⟨j,hj⟩:=Yl hc;rw[cap j i hj]at h1;exact .inl ⟨j,hj,h1⟩
  ·rw[out i hc]at h1;exact .inr ⟨hc,h1⟩
 refine⟨by rw[t3];exact E.len,fun i d h=>?_,fun i s d h1 h2=>?_,fun i j s t d d' p h1 h2 h3 h4 h5 h6=>?_,fun p h=>?_,fun p h=>?_⟩
 ·by_cases hc:i∈caps
  ·obtain⟨j,hj⟩:=Yl hc;rw[cap j i hj]at h;obtain⟨v,g1,g2⟩:=B.val _ d h;exact⟨v,bget hj g1,g2.less same⟩
  ·rw[out i hc]at h;obtain⟨v,g1,g2⟩:=E.val i d h;exact⟨v,g1,g2.go kp nn⟩
 ·rcases own i s d h1 h2 with⟨j,hj,hs⟩|⟨hc,hs⟩
  ·obtain⟨p,g1,g2,g3⟩:=B.own _ s d hs h2;exact⟨p,bget hj g1,.inl g2,g3.go rfl (fun _ _ e _=>e) fun b z=>.inl (same b z)⟩
  ·obtain⟨p,g1,g2,g3⟩:=E.own i s d hs h2;have nb:=nob i s d p hc hs h2 g1;refine⟨p,g1,.inr ⟨g2,nb⟩,g3.go ?_ kp nn⟩;cases q:H p with
   | none=>exact absurd q g3.live
   | some o=>exact x.kp p o q nb
 ·rcases own i s d h1 h2 with⟨j1,c1,s1⟩|⟨c1,s1⟩<;>rcases own j t d' h3 h4 with⟨j2,c2,s2⟩|⟨c2,s2⟩
  ·have e:=B.uni _ _ s t d d' p s1 h2 s2 h4 (by rw[jR c1,h5];rfl) (by rw[jR c2,h6];rfl)
   have e':j1=j2:=by lia
   subst e';rw[c1]at c2;exact Option.some.inj c2
  ·exfalso
   obtain⟨q,g1,g2,_⟩:=B.own _ s d s1 h2;have:=bget c1 g1;rw[h5]at this;cases this;have nb:=nob j t d' p c2 s2 h4 h6;obtain⟨q2,k1,_,k3⟩:=E.own j t d' s2 h4;rw[h6]at k1;cases k1;exact(x.nw p g2).elim nb k3.live
  ·exfalso
   obtain⟨q,g1,g2,_⟩:=B.own _ t d' s2 h4;have:=bget c2 g1;rw[h6]at this;cases this;have nb:=nob i s d p c1 s1 h2 h5;obtain⟨q2,k1,_,k3⟩:=E.own i s d s1 h2;rw[h5]at k1;cases k1;exact(x.nw p g2).elim nb k3.live
  ·exact E.uni i j s t d d' p s1 h2 s2 h4 h5 h6
 ·rcases h with h|h
  ·exact fun z=>B.dis p h (.inl z)
  ·exact E.dis p h.1
 ·rcases h with(h|h)|h
  ·exact B.liv p (.inl h)
  ·exact x.lv p (E.liv p (.inl h.1))
  ·exact x.lv p (E.liv p (.inr h))
theorem yh{k:Nat}{a b:En}(h0:∀(i:Nat) s,a[i]?=some s->i<k->s=.e)(h:Kp a b)(hk:k<=b.length):Kp a (rst k b):=by
 have lk:(rst k b).length=b.length:=by simp[rst];lia
 have at_:∀i,k<=i->(rst k b)[i]?=b[i]?:=fun i hi=>by
  unfold rst;rw[Ye (by simpa using hi),Xh,Wf]
  congr 1;lia
 refine⟨lk.trans h.len,fun i s e g=>?_,fun i d e=>?_⟩
 ·by_cases hi:i<k
  ·have:=h0 i s e hi;subst this;exact absurd rfl g
  ·obtain⟨s',e',g'⟩:=h.has i s e g;exact⟨s',by rw[at_ i (by lia)];exact e',g'⟩
 ·by_cases hi:i<k
  ·have:=h0 i _ e hi;cases this
  ·obtain⟨d',e'⟩:=h.io i d e;exact⟨d',by rw[at_ i (by lia)];exact e'⟩
theorem Fx{k:Nat}{caps:List Nat}{sb:En}(nd:caps.Nodup)(lt:∀i∈caps,i<st.length)(hl:sb.length=k+caps.length)(h:Kp (jy k caps st) sb):Kp st (wb caps (sb.drop k) st):=by
 have dl:(sb.drop k).length=caps.length:=by rw[Wj];lia
 have cap:∀(j i:Nat),caps[j]?=some i->(wb caps (sb.drop k) st)[i]?=sb[k+j]?:=fun j i h=>by
  rw[yd caps _ st nd dl h (lt i (Wa h)),Wf]
 refine⟨t3 _ _ _,fun i s e g=>?_,fun i d e=>?_⟩
 ·by_cases hc:i∈caps
  ·obtain⟨j,hj⟩:=Yl hc;rw[cap j i hj];exact h.has (k+j) s (by rw[u7 hj,e];rfl) g
  ·exact⟨s,by rw[nE _ _ _ hc];exact e,g⟩
 ·by_cases hc:i∈caps
  ·obtain⟨j,hj⟩:=Yl hc;rw[cap j i hj];exact h.io (k+j) d (by rw[u7 hj,e];rfl)
  ·exact⟨d,by rw[nE _ _ _ hc];exact e⟩
theorem qv{k:Nat}{caps:List Nat}(i:Nat)(s:Sl)(h:(jy k caps st)[i]?=some s)(hi:i<k):s=.e:=by
 unfold jy at h;rw[Yf (by simpa using hi),Xj,if_pos hi]at h
 exact(Option.some.inj h).symm
noncomputable def ItC(K:PySem.W.Frag)(Z:AS)(caps:List Nat)(st:En)(σ:St)(J:It)(items:List D)(H:Hp)(O:AS):Prop:=∀H' Oi,Ext (Ob caps st σ) H Oi H'->(∀p,U (Oo caps st σ O Oi) Z p->Lv H' p)->(∀i,items.length<=i->J.stop i H')/\∀(i:Nat) d,items[i]?=some d->J.go i H'/\∀x H'',J.yld i H' x H''->Same H' H''/\DA K (U (Oo caps st σ O Oi) Z) H'' x d
noncomputable def Fy(K:PySem.W.Frag)(caps:List Nat)(wi:TI)(fi:FI):Prop:=∀(st:En)(σ:St)(H:Hp)(O Z:AS)(R:It->Hp->Prop),ER K st σ H O Z->∀items st',fi st=some (items,st') ->
 (∀J H' O',Ext O H O' H'->Kp st st'->ER K st' σ H' O' Z->ItC K Z caps st' σ J items H' O'->R J H')->wi σ H R
theorem RdI.ic{caps:List Nat}{wi:TI}{fi:FI}(h:RdI K wi fi):Fy K caps wi fi:=fun st σ H O Z R E items st' e q =>
 h st σ H O Z R E items st' e fun J H1 O1 x1 k1 E1 it=>q J H1 O1 x1 k1 E1 fun H' Oi x2 lv=>it H' _ (t4 E1 x2) lv
theorem yi{k:Nat}{caps:List Nat}{wi:TI}{fi:FI}{g:TG}{fg:FG}{tg:List Nat}{tc:TT}{fc:FT}{te:TE}{fe:FE}(hi:Fy K caps wi fi)(hg:RdG K g fg tg)(ht:∀j∈tg,j<k)(hc:RdT K tc fc)(he:RdE K te fe) :
  RdE K (pB k caps wi g tc te) (eN k caps fi fg fc fe):=by
 intro st σ H O Z Q E r st' h q;refine bsP h fun items st1 e1 h=>?_;by_cases hok:(qu caps st1.length&&decide (items.length<=1000000))=true
 rotate_left
 ·simp only[if_neg hok]at h;cases h
 simp only[if_pos hok]at h;refine bsP h fun total sf e2 h=>?_;cases h;have hok1:caps.Nodup/\(∀i∈caps,i<st1.length)/\items.length<=1000000:=by
  rw[Yi,decide_eq_true_eq]at hok;unfold qu at hok;rw[Yi,decide_eq_true_eq,Ql]at hok;exact⟨hok.1.1,fun i hi=>of_decide_eq_true (hok.1.2 i hi),hok.2⟩
 obtain⟨nd,lt,hfew⟩:=hok1;refine hi st σ H O Z _ E items st1 e1 fun J H1 O1 x1 k1 E1 it=>?_;have bl:(blk k caps σ).length=k+caps.length:=by simp[blk]
 have el:(jy k caps st1).length=k+caps.length:=by simp[jy]
 refine⟨items.length,fun i xs H'=>∃sb Oi ds ds2,Ext (Ob caps st1 σ) H1 Oi H'/\ER K sb (blk k caps σ) H' Oi (Zb caps st1 σ O1 Z)/\El K (U Oi (Zb caps st1 σ O1 Z)) H' xs ds/\db fg fc fe k (items.drop i) sb=some (ds2,sf)/\ds++ds2=total/\Kp (jy k caps st1) sb/\xs.length<=i,
  ⟨jy k caps st1,Ob caps st1 σ,[],total,Ext.refl _ _,DI E1 nd,El.nil,e2,rfl,Kp.refl _,Va _⟩,?_,?_⟩
 ·rintro xs H' ⟨sb,Oi,ds,ds2,x2,B,exs,e3,ed,kb,_⟩;rw[List.drop_eq_nil_of_le (Va _)]at e3;obtain⟨rfl,rfl⟩:([]:List D)=ds2/\sb=sf:=by
   have:=Option.some.inj e3;exact⟨congrArg Prod.fst this,congrArg Prod.snd this⟩
  rw[Ve]at ed;subst ed;obtain⟨stop,_⟩:=it H' Oi x2 (yg E1 nd lt (kb.len.trans el) x2 B).liv;refine⟨stop _ (Va _),fun p hp=>?_⟩;have sl:sb.length=k+caps.length:=kb.len.trans el;have Eo:=yg E1 nd lt sl x2 B;have ko:=Fx nd lt sl kb;have el2:El K (U (Oo caps st1 σ O1 Oi) Z) H' xs ds:=exs.less fun b z=>by
   rcases z with(z|z)|z
   ·exact .inl z
   ·exact .inr (.inr z)
   ·exact .inr (.inl z)
  obtain⟨E3,rv⟩:=Eo.new hp el2;have xx:=x1.trans (t4 E1 x2);exact q _ _ _ (xx.trans (Same.ext (bj hp _))) (k1.trans ko) E3 rv fun p' e=>by cases e;exact xx.dead hp
 ·rintro i xs H' hlt ⟨sb,Oi,ds,ds2,x2,B,exs,e3,ed,kb,hxl⟩;have hd:items.drop i=items[i]::items.drop (i+1):=Wm hlt;rw[hd]at e3;refine bsO e3 fun s1 e4 e3=>?_;refine bsP e3 fun c s2 e5 e3=>?_;obtain⟨_,go⟩:=it H' Oi x2 (yg E1 nd lt (kb.len.trans el) x2 B).liv;obtain⟨g1,g2⟩:=go i _ (Za hlt);refine⟨g1,Yn hxl (Zd hlt (few hfew)),fun x H'' hy=>?_⟩;obtain⟨sm,da⟩:=g2 x H'' hy;have xm:Ext Oi H' Oi H'':=Same.ext sm;have da':DA K (U Oi (Zb caps st1 σ O1 Z)) H'' x items[i]:=da.less fun b z=>by
   rcases z with z|z|z
   ·exact .inl (.inl z)
   ·exact .inr z
   ·exact .inl (.inr z)
  refine hg sb _ H'' Oi _ x _ _ (B.same sm) da' s1 e4 fun τ kt kq3 E4=>?_;have sl:sb.length=k+caps.length:=kb.len.trans el;have tl:τ.length=(blk k caps σ).length:=by rw[← E4.len,kq3.len,sl,bl]
  have tk:∀j,k<=j->(blk k caps σ)[j]?=τ[j]?:=fun j hj=>((kt j fun z=>absurd (ht j z) (by lia)).1).symm
  have drop:τ.drop k=(blk k caps σ).drop k:=by
   refine List.ext_getElem? fun j=>?_;rw[Wf,Wf];exact(tk _ (by lia)).symm
  have kp1:Kp (jy k caps st1) s1:=by
   refine⟨kq3.len.trans kb.len,fun j s e g=>?_,fun j d e=>?_⟩
   ·by_cases hj:j<k
    ·have:=qv j s e hj;subst this;exact absurd rfl g
    ·obtain⟨s',e',g'⟩:=kb.has j s e g;exact⟨s',by rw[(kt j fun z=>absurd (ht j z) (by lia)).2];exact e',g'⟩
   ·by_cases hj:j<k
    ·have:=qv j _ e hj;cases this
    ·obtain⟨d',e'⟩:=kb.io j d e;exact⟨d',by rw[(kt j fun z=>absurd (ht j z) (by lia)).2];exact e'⟩
  refine hc s1 τ H'' Oi _ _ E4 c s2 e5 fun H3 O3 x3 k3 E5=>?_;have kp2:=kp1.trans k3;cases c with
  | false =>
   simp only[Qe,if_false]at e3 ⊢;have hs2:k<=s2.length:=by rw[kp2.len,el];lia
   exact⟨drop,rst k s2,O3,ds,ds2,(x2.trans xm).trans x3,yf E5 tl.symm hs2 tk,exs.ext (xm.trans x3),e3,ed,yh qv kp2 hs2,by lia⟩
  | true =>
   rw[if_pos rfl]at e3 ⊢;refine bsP e3 fun ry s3 e6 e3=>?_;refine bsP e3 fun dy s4 e7 e3=>?_;refine bsP e3 fun ds3 sf' e8 e3=>?_;cases e3;refine he s2 τ H3 O3 _ _ E5 ry s3 e6 fun y H4 O4 x4 k4 E6 rv w=>?_;obtain⟨O5,x5,k5,E7,day⟩:=rv.esc E6 e7;have kp3:=(kp2.trans k4).trans k5;have hs4:k<=s4.length:=by rw[kp3.len,el];lia
   refine⟨drop,rst k s4,O5,ds++[dy],ds3,(((x2.trans xm).trans x3).trans x4).trans x5,yf E7 tl.symm hs4 tk,(exs.ext (((xm.trans x3).trans x4).trans x5)).app (El.one day),e8,by rw[Vd];exact ed,yh qv kp3 hs4,by simp;lia⟩
theorem dj{k:Nat}{caps:List Nat}{wi:TI}{fi:FI}{g:TG}{fg:FG}{tg:List Nat}{tc:TT}{fc:FT}{te:TE}{fe:FE}(hi:RdI K wi fi)(hg:RdG K g fg tg)(ht:∀j∈tg,j<k)(hc:RdT K tc fc)(he:RdE K te fe) :
  RdE K (pB k caps wi g tc te) (eN k caps fi fg fc fe):=yi hi.ic hg ht hc he
noncomputable def gP(n:Nat)(ds:List D):En:=ds.map Sl.v++List.replicate (n-ds.length) Sl.e
noncomputable def DJ(st:En):Rs->Option Rz
 | .d x=>some (x,false)
 | .f x=>some (x,true)
 | .s i=>match st[i]? with
  | some (.o x)=>some (x,true)
  | some (.v x)=>some (x,false)
  | _=>none
noncomputable def fin:Ot->Option Rz
 | .nx _=>some (.non,false)
 | .rt r st=>DJ st r
 | _=>none
noncomputable def bM(F:FS)(n m:Nat):List D->Option Rz:=fun ds=>if ds.length=m then(F (gP n ds)).bind fin else none
theorem yj{N:List Str}(el:El K Z H vs ds)(lv:∀p,Z p->Lv H p):ER K (gP N.length ds) (L2.start N vs) H (fun _=>False) Z:=by
 have gv:∀(i:Nat) s,(gP N.length ds)[i]?=some s->s.get≠none->∃d,s=.v d/\ds[i]?=some d:=fun i s e n=>by
  unfold gP at e;by_cases hi:i<ds.length
  ·rw[Yf (by simpa using hi),Wc]at e
   obtain⟨d,h1,h2⟩:=Xd.mp e;exact⟨d,h2.symm,h1⟩
  ·rw[Ye (by simpa using hi),Xj]at e
   by_cases hz:i-(ds.map Sl.v).length<N.length-ds.length
   ·rw[if_pos hz]at e;cases e;exact absurd rfl n
   ·rw[if_neg hz]at e;cases e
 have no:∀(i:Nat) s d,(gP N.length ds)[i]?=some s->s.ow=some d->False:=fun i s d e h=>by
  obtain⟨x,rfl,_⟩:=gv i s e (iF h);cases h
 refine⟨by simp[gP,L2.start,el.1],fun i d e=>?_,fun i s d e h=>(no i s d e h).elim,fun i j s t d d' p e h=>(no i s d e h).elim,fun p h=>h.elim,fun p h=>h.elim (fun z=>z.elim) (lv p)⟩
 obtain⟨x,h1,h2⟩:=gv i _ e (by simp[Sl.get])
 cases h1;obtain⟨v,g1,g2⟩:=el.at h2;refine⟨v,?_,g2.less fun b z=>z.elim (fun y=>y.elim) fun y=>y⟩;unfold L2.start;have hi:=(Yb.mp g1).1;rw[Yf (by simpa using hi),Wc,g1];rfl
theorem AU{ts:TS}{F:FS}{N:List Str}{Q:VK}{XE:XK}(h:RdS K ts F){m:Nat}(sp:spV K (bM F N.length m) vs H Q XE):ts { nx:=fun _ H'=>Q .non H',rt:=Q } (L2.start N vs) H:=by
 obtain⟨Z,ds,z,el,lv,e,q⟩:=sp;have hm:ds.length=m:=by
  by_cases hm:ds.length=m
  ·exact hm
  ·simp only[bM,if_neg hm]at e;cases e
 simp only[bM,if_pos hm]at e;refine bsO e fun o e1 e2=>?_;have same:∀{O':AS}{H':Hp},Ext (fun _=>False) H O' H'->Same H H':=fun {O' H'} x b o e=>x.kp b o e fun z=>z;refine h _ _ H _ Z _ (yj el lv) o e1 ?_;cases o with
 | nx s =>
  cases e2;exact fun σ' H' O' x _ _=>q .non H' (same x) .non
 | bk s=>cases e2
 | ct s=>cases e2
 | rt r s =>
  intro v σ' H' O' x k E rv w;have sub:∀b,Z b->U O' Z b:=fun b z=>.inr z;cases r with
  | d y=>cases e2;exact q v H' (same x) (DA.less (show DA K (U O' Z) H' v y from rv) sub)
  | f y =>
   cases e2;obtain⟨p,rfl,h1,h2,h3,_⟩:=rv;exact q _ H' (same x) ⟨p,rfl,w p rfl,h3.go rfl (fun _ _ e _=>e) fun b z=>.inl (z.elim .inl fun y=>.inr (.inr y))⟩
  | s i =>
   obtain⟨h1,t,h2,h3⟩:=rv
   have e2':(match s[i]? with
    | some (.o x)=>some (x,true)
    | some (.v x)=>some (x,false)
    | _=>none)=some z:=e2
   rw[h2]at e2';cases t with
   | e=>cases e2'
   | io y=>cases e2'
   | v y =>
    cases e2';obtain⟨u,g1,g2⟩:=E.val i y h2;rw[h1]at g1;cases g1;exact q v H' (same x) (g2.less sub)
   | o y =>
    cases e2';obtain⟨p,g1,g2,g3⟩:=E.own i _ y h2 rfl;rw[h1]at g1;cases g1;refine q _ H' (same x) ⟨p,rfl,(x.nw p g2).elim (fun z=>z.elim) (fun z=>z),g3.go rfl (fun _ _ e _=>e) fun b z=>.inl (z.elim (fun y=>.inl (by rw[y];exact g2)) fun y=>.inr y)⟩
noncomputable def fX(n:Nat)(x:D)(ds:List D):En:=Sl.io x::(ds.map Sl.v++List.replicate (n-(ds.length+1)) Sl.e)
noncomputable def wJ(z:Option Rz)(st:En):Option (Rz×D):=match st[0]? with
 | some (Sl.io x)=>z.bind fun y=>some (y,x)
 | _=>none
noncomputable def Cq:Ot->Option (Rz×D)
 | .nx st=>wJ (some (.non,false)) st
 | .rt r st=>wJ (DJ st r) st
 | _=>none
noncomputable def dD(F:FS)(n m:Nat):D->List D->Option (Rz×D):=fun x ds=>if ds.length+1=m then(F (fX n x ds)).bind Cq else none
theorem wK{N : List Str}{f : Addr}{x : D}{ws : List V}(nz : ¬ Z f)(ho : OA K (ins f Z) H f x)(el : El K (ins f Z) H ws ds)(lv : ∀ p, Z p → Lv H p) : ER K (fX N.length x ds) (L2.start N (.ref f :: ws)) H (fun b => b = f) Z := by
  have gv : ∀ (i : Nat) s, (fX N.length x ds)[i]? = some s → s.get ≠ none → (i = 0 ∧ s = .io x) ∨ ∃ j d, i = j + 1 ∧ s = .v d ∧ ds[j]? = some d := fun i s e n => by
    cases i with
    | zero => left; exact ⟨rfl, by have : Sl.io x = s := by simpa [fX] using e
                                   exact this.symm⟩
    | succ j =>
      right;have e : (ds.map Sl.v ++ List.replicate (N.length - (ds.length + 1)) Sl.e)[j]? = some s := by simpa [fX] using e
      by_cases hi : j < ds.length
      · rw [List.getElem?_append_left (by simpa using hi), List.getElem?_map] at e
        obtain ⟨d, h1, h2⟩ := Option.map_eq_some_iff.mp e;exact ⟨j, d, rfl, h2.symm, h1⟩
      · rw [List.getElem?_append_right (by simpa using hi), List.getElem?_replicate] at e
        by_cases hz : j - (ds.map Sl.v).length < N.length - (ds.length + 1)
        · rw [if_pos hz] at e; cases e; exact absurd rfl n
        · rw [if_neg hz] at e; cases e
  have s0 : (L2.start N (.ref f :: ws))[0]? = some (some (.ref f)) := by simp [L2.start]
  have own0 : ∀ (i : Nat) s d, (fX N.length x ds)[i]? = some s → s.ow = some d → i = 0 ∧ d = x := fun i s d e h => by
    rcases gv i s e (iF h) with ⟨h1, rfl⟩ | ⟨j, d', _, rfl, _⟩
    · cases h; exact ⟨h1, rfl⟩
    · cases h
  refine ⟨by simp [fX, L2.start, el.1], fun i d e => ?_, fun i s d e h => ?_, fun i j s t d d' p e h e' h' _ _ => ?_, fun p h => by rw [h]; exact nz, fun p h => ?_⟩
  · rcases gv i _ e (by simp [Sl.get]) with ⟨_, h⟩ | ⟨j, d', rfl, h, h2⟩
    · cases h
    · cases h
      obtain ⟨v, g1, g2⟩ := el.at h2;refine ⟨v, ?_, g2⟩;have hi := (List.getElem?_eq_some_iff.mp g1).1;unfold L2.start;rw [List.getElem?_append_left (by simp; lia), List.getElem?_map]
      simp [g1]
  · obtain ⟨rfl, rfl⟩ := own0 i s d e h
    exact ⟨f, s0, rfl, ho⟩
  · rw [(own0 i s d e h).1, (own0 j t d' e' h').1]
  · rcases h with h | h
    · rw [h]; exact ho.lv
    · exact lv p h
set_option tactic.hygienic true in
theorem wL{ts:TS}{F:FS}{N:List Str}{Q:VK}{XE:XK}(h:RdS K ts F){m:Nat}(sp:mx K (dD F N.length m) vs H Q XE):ts { nx:=fun _ H'=>Q .non H',rt:=Q } (L2.start N vs) H:=by
 obtain⟨f,ws,Z,x,ds,z,x',rfl,nz,ho,el,lv,e,q⟩:=sp;have hm:ds.length+1=m:=by
  by_cases hm:ds.length+1=m
  ·exact hm
  ·simp only[dD,if_neg hm]at e;cases e
 simp only[dD,if_pos hm]at e;refine bsO e fun o e1 e2=>?_;have but:∀{O':AS}{H':Hp},Ext (fun b=>b=f) H O' H'->∀b o,H b=some o->b≠f->H' b=some o:=fun {O' H'} x b o e n=>x.kp b o e n;have i0:(fX N.length x ds)[0]?=some (.io x):=rfl;have s0:(L2.start N (.ref f::ws))[0]?=some (some (.ref f)):=by simp[L2.start]
 have f0:∀{s:En}{σ':St}{H':Hp}{O':AS}{y:D},Kq (fX N.length x ds) (L2.start N (.ref f::ws)) s σ'->ER K s σ' H' O' Z->s[0]?=some (.io y)->O' f/\OA K (U O' Z) H' f y:=fun {s σ' H' O' y} k E e=>by
  obtain⟨g1,_⟩:=k.io 0 x i0;obtain⟨p,h1,h2,h3⟩:=E.own 0 _ y e rfl;rw[g1,s0]at h1;cases h1;exact⟨h2,h3⟩
 refine h _ _ H _ Z _ (wK nz ho el lv) o e1 ?_;cases o with
 | bk s=>cases e2
 | ct s=>cases e2
 | nx s =>
  intro σ' H' O' x2 k E;have e3:wJ (some (.non,false)) s=some (z,x'):=e2;unfold wJ at e3;split at e3
  ·rename_i y ey
   cases e3;obtain⟨h1,h2⟩:=f0 k E ey;exact q .non H' (but x2) ⟨.non,h2.go rfl (fun _ _ e _=>e) fun b z=>.inl (z.elim (fun w=>.inl (by rw[w];exact h1)) .inr)⟩
  ·cases e3
 | rt r s =>
  intro v σ' H' O' x2 k E rv w;have e3:wJ (DJ s r) s=some (z,x'):=e2;unfold wJ at e3;split at e3
  ·rename_i y ey
   refine bsO e3 fun z' e4 e3=>?_;cases e3;obtain⟨h1,h2⟩:=f0 k E ey;have sub:∀b,ins f Z b->U O' Z b:=fun b z=>z.elim (fun w=>.inl (by rw[w];exact h1)) .inr
   cases r with
   | d u=>cases e4;exact q v H' (but x2) ⟨DA.less (show DA K (U O' Z) H' v u from rv) sub,h2.go rfl (fun _ _ e _=>e) fun b z=>.inl (sub b z)⟩
   | f u =>
    cases e4;obtain⟨p,rfl,g1,g2,g3,E2⟩:=rv;obtain⟨h3,h4⟩:=f0 k E2 ey;exact q _ H' (but x2) ⟨p,rfl,w p rfl,g3.go rfl (fun _ _ e _=>e) (fun b z=>.inl (z.elim .inl fun y=>.inr (sub b y))),h4.go rfl (fun _ _ e _=>e) fun b z=>.inl (z.elim (fun y=>.inl (.inl y)) fun y=>(sub b y).elim (fun a=>.inl (.inr a)) .inr)⟩
   | s i =>
    obtain⟨g1,t,g2,g3⟩:=rv
    have e5:(match s[i]? with
     | some (.o x)=>some (x,true)
     | some (.v x)=>some (x,false)
     | _=>none)=some z:=e4
    rw[g2]at e5;cases t with
    | e=>cases e5
    | io u=>cases e5
    | v u =>
     cases e5;obtain⟨u',j1,j2⟩:=E.val i u g2;rw[g1]at j1;cases j1;exact q v H' (but x2) ⟨j2.less sub,h2.go rfl (fun _ _ e _=>e) fun b z=>.inl (sub b z)⟩
    | o u =>
     cases e5;obtain⟨p,j1,j2,j3⟩:=E.own i _ u g2 rfl;rw[g1]at j1;cases j1;have npf:p≠f:=fun z=>by
      subst z;obtain⟨p0,l1,_⟩:=E.own 0 _ _ ey rfl;obtain⟨l2,_⟩:=k.io 0 x i0;rw[l2,s0]at l1;cases l1;have:=E.uni i 0 _ _ u _ _ g2 rfl ey rfl g1 (by rw[l2,s0])
      subst this;rw[ey]at g2;cases g2
     have hp:H p=none:=(x2.nw p j2).elim (fun z=>absurd z npf) (fun z=>z);have sub2:∀b,ins p (ins f Z) b->U O' Z b:=fun b z=>z.elim (fun y=>.inl (by rw[y];exact j2)) (sub b)
     exact q _ H' (but x2) ⟨p,rfl,hp,j3.go rfl (fun _ _ e _=>e) (fun b z=>.inl (sub2 b z)),h2.go rfl (fun _ _ e _=>e) fun b z=>.inl (sub2 b z)⟩
  ·cases e3
theorem DK{F:FS}{n m:Nat}{Q:VK}{XE:XK}(sp:spV K (bM F n m) vs H Q XE):vs.length=m:=by
 obtain⟨Z,ds,z,el,lv,e,q⟩:=sp;by_cases hm:ds.length=m
 ·exact el.1.trans hm
 ·simp only[bM,if_neg hm]at e;cases e
theorem Fz{F:FS}{n m:Nat}{Q:VK}{XE:XK}(sp:mx K (dD F n m) vs H Q XE):vs.length=m:=by
 obtain⟨f,ws,Z,x,ds,z,x',rfl,nz,ho,el,lv,e,q⟩:=sp;by_cases hm:ds.length+1=m
 ·have:=el.1;simp;lia
 ·simp only[dD,if_neg hm]at e;cases e
end
end VF
namespace VF
open PySem L2
section
variable {K:PySem.W.Frag}{Y Y':AS}{H H':Hp}{v:V}{d:D}{vs:List V}{ds:List D}
noncomputable def orD(b b':D->D->Option Rz):D->D->Option Rz:=fun x y=>match b x y with
 | some z=>some z
 | none=>b' x y
set_option tactic.hygienic true in
theorem RdOp.or{r r':R2}{b b':D->D->Option Rz}(h:RdOp K r b)(h':RdOp K r' b'):RdOp K (fun x y H Q=>r x y H Q∨r' x y H Q) (orD b b'):=by
 intro Y H x y d1 d2 z Q lv b1 b2 e q;unfold orD at e;split at e
 ·rename_i z' ez
  cases e;exact .inl (h Y H x y d1 d2 z Q lv b1 b2 ez q)
 ·exact .inr (h' Y H x y d1 d2 z Q lv b1 b2 e q)
noncomputable def orC(b b':List D->Option Rz):List D->Option Rz:=fun x=>match b x with
 | some z=>some z
 | none=>b' x
set_option tactic.hygienic true in
theorem RdCB.or{r r':List V->Hp->VK->Prop}{b b':List D->Option Rz}(h:RdCB K r b)(h':RdCB K r' b'):RdCB K (fun xs H Q=>r xs H Q∨r' xs H Q) (orC b b'):=by
 intro Y H xs ds z Q lv b1 e q;unfold orC at e;split at e
 ·rename_i z' ez
  cases e;exact .inl (h Y H xs ds z Q lv b1 ez q)
 ·exact .inr (h' Y H xs ds z Q lv b1 e q)
noncomputable def bI0(g:Int->Int->D):D->D->Option Rz
 | .int i,.int j=>some (g i j,false)
 | _,_=>none
theorem rQ{gV:Int->Int->V}{gD:Int->Int->D}(h:∀Y H i j,DA K Y H (gV i j) (gD i j)):RdOp K (rI0 gV) (bI0 gD):=by
 intro Y H x y d1 d2 z Q lv b1 b2 e q;cases d1 with
 | int i =>
  cases d2 with
  | int j =>
   cases e;exact⟨i,j,b1,b2,q _ H (Same.refl H) (h Y H i j)⟩
  | _=>cases e
 | _=>cases e
noncomputable def bI(C:Int->Int->Prop)[∀i j,Decidable (C i j)](g:Int->Int->D):D->D->Option Rz
 | .int i,.int j=>if C i j then some (g i j,false) else none
 | _,_=>none
theorem AV{C:Int->Int->Prop}[dc:∀i j,Decidable (C i j)]{gV:Int->Int->V}{gD:Int->Int->D}(h:∀Y H i j,DA K Y H (gV i j) (gD i j)):RdOp K (rI C gV) (bI C gD):=by
 intro Y H x y d1 d2 z Q lv b1 b2 e q;cases d1 with
 | int i =>
  cases d2 with
  | int j =>
   obtain⟨c,e⟩:=aR e;cases e;exact⟨i,j,b1,b2,c,q _ H (Same.refl H) (h Y H i j)⟩
  | _=>cases e
 | _=>cases e
noncomputable instance (i j:Int):Decidable (CMul i j):=by unfold CMul;infer_instance
noncomputable instance (i j:Int):Decidable (tO i j):=by unfold tO;infer_instance
noncomputable instance (i j:Int):Decidable (xF i j):=by unfold xF;infer_instance
noncomputable def rR:=bI0 fun i j=>.int (i+j)
noncomputable def AW:=bI0 fun i j=>.int (i-j)
noncomputable def u8:=bI CMul fun i j=>.int (i*j)
noncomputable def t5:=bI tO fun i j=>.int (i / j)
noncomputable def nF:=bI (fun _ j=>0<j) fun i j=>.int (i % j)
noncomputable def FB:=bI xF fun i j=>.int (i ^ j.toNat)
noncomputable def DL:=bI0 fun i j=>.bl (decide (i<j))
noncomputable def bGt:=bI0 fun i j=>.bl (decide (j<i))
noncomputable def bGe:=bI0 fun i j=>.bl (decide (j<=i))
theorem ro_addI:RdOp K (rI0 fun i j=>.int (i+j)) rR:=rQ fun _ _ _ _=>.int _
theorem t6:RdOp K (rI0 fun i j=>.int (i-j)) AW:=rQ fun _ _ _ _=>.int _
theorem ro_mulI:RdOp K (rI CMul fun i j=>.int (i*j)) u8:=AV fun _ _ _ _=>.int _
theorem qw:RdOp K (rI tO fun i j=>.int (i / j)) t5:=AV fun _ _ _ _=>.int _
theorem iG:RdOp K (rI (fun _ j=>0<j) fun i j=>.int (i % j)) nF:=AV fun _ _ _ _=>.int _
theorem DM:RdOp K (rI xF fun i j=>.int (i ^ j.toNat)) FB:=AV fun _ _ _ _=>.int _
theorem ro_ltI:RdOp K (rI0 fun i j=>.bl (decide (i<j))) DL:=rQ fun _ _ _ _=>.bl _
theorem Cr:RdOp K (rI0 fun i j=>.bl (decide (j<i))) bGt:=rQ fun _ _ _ _=>.bl _
theorem FC:RdOp K (rI0 fun i j=>.bl (decide (j<=i))) bGe:=rQ fun _ _ _ _=>.bl _
noncomputable def rS:D->Option Rz
 | .int i=>some (.int (-i),false)
 | _=>none
theorem lF:Fv K (rU fun i=>.int (-i)) rS:=by
 intro Y H x d1 z Q lv b1 e q;cases d1 with
 | int i=>cases e;exact⟨i,b1,q _ H (Same.refl H) (.int _)⟩
 | _=>cases e
noncomputable def scD:D->Option V
 | .non=>some .non
 | .bl b=>some (.bl b)
 | .int i=>some (.int i)
 | .str x=>some (.str x)
 | _=>none
theorem lG{w:V}(h:BA K Y H v d)(e:scD d=some w):v=w:=by
 cases d with
 | non=>cases e;exact h
 | bl b=>cases e;exact h
 | int i=>cases e;exact h
 | str x=>cases e;exact h
 | _=>cases e
theorem rT{w:V}(e:scD d=some w):jA w=true:=by
 cases d with
 | non=>cases e;rfl
 | bl b=>cases e;rfl
 | int i=>cases e;rfl
 | str x=>cases e;rfl
 | _=>cases e
noncomputable def wM(neg:Bool):D->D->Option Rz:=fun a b=>(scD a).bind fun x=>(scD b).bind fun y=>if De x y=true then some (.bl (if neg then !decide (x=y) else decide (x=y)),false) else none
theorem DN:RdOp K rEq (wM false):=by
 intro Y H x y d1 d2 z Q lv b1 b2 e q;refine bsO e fun x' e1 e=>?_;refine bsO e fun y' e2 e=>?_;obtain⟨c,e⟩:=aR e;cases e;obtain rfl:=lG b1 e1;obtain rfl:=lG b2 e2;exact⟨c,q _ H (Same.refl H) (.bl _)⟩
theorem ro_neS:RdOp K rNe (wM true):=by
 intro Y H x y d1 d2 z Q lv b1 b2 e q;refine bsO e fun x' e1 e=>?_;refine bsO e fun y' e2 e=>?_;obtain⟨c,e⟩:=aR e;cases e;obtain rfl:=lG b1 e1;obtain rfl:=lG b2 e2;exact⟨c,q _ H (Same.refl H) (.bl _)⟩
noncomputable def D.isN:D->Bool
 | .non=>true
 | _=>false
theorem yk(h:BA K Y H v d):decide (v=.non)=d.isN:=by
 cases d with
 | non=>rw[show v=V.non from h];rfl
 | bl b=>rw[show v=V.bl b from h];rfl
 | int i=>rw[show v=V.int i from h];rfl
 | str x=>rw[show v=V.str x from h];rfl
 | ty x=>rw[show v=V.ty x from h];rfl
 | tup ds=>obtain⟨a,_,rfl,_⟩:=h;rfl
 | lst ds=>obtain⟨a,_,rfl,_⟩:=h;rfl
 | fl ds=>obtain⟨a,_,rfl,_⟩:=h;rfl
 | dk ds=>obtain⟨a,_,rfl,_⟩:=h;rfl
 | dt ds=>obtain⟨a,_,_,rfl,_⟩:=h;rfl
noncomputable def mB(neg:Bool):D->D->Option Rz
 | a,.non=>some (.bl (if neg then !a.isN else a.isN),false)
 | _,_=>none
theorem qx:RdOp K (fun x y H Q=>y=.non/\Q (.bl (decide (x=.non))) H) (mB false):=by
 intro Y H x y d1 d2 z Q lv b1 b2 e q;cases d2 with
 | non =>
  cases e;refine⟨b2,?_⟩;rw[yk b1];exact q _ H (Same.refl H) (.bl _)
 | _=>cases e
theorem AX:RdOp K (fun x y H Q=>y=.non/\Q (.bl (!decide (x=.non))) H) (mB true):=by
 intro Y H x y d1 d2 z Q lv b1 b2 e q;cases d2 with
 | non =>
  cases e;refine⟨b2,?_⟩;rw[yk b1];exact q _ H (Same.refl H) (.bl _)
 | _=>cases e
noncomputable def rV:D->D->Option Rz
 | .str a,.str b=>if a.length+b.length<=1000000 then some (.str (a++b),false) else none
 | _,_=>none
theorem ro_addS:RdOp K (fun x y H Q=>∃i j,x=.str i/\y=.str j/\i.length+j.length<=sizeLine/\Q (.str (i++j)) H) rV:=by
 intro Y H x y d1 d2 z Q lv b1 b2 e q;cases d1 with
 | str a =>
  cases d2 with
  | str b =>
   obtain⟨c,e⟩:=aR e;cases e;exact⟨a,b,b1,b2,few c,q _ H (Same.refl H) (.str _)⟩
  | _=>cases e
 | _=>cases e
theorem fR{ds:List D}{p:Addr}(el:El K Y H vs ds)(hp:H p=none):RES K Y H (upd H p (.lst vs)) (.ref p) (.lst ds,true) :=
 ⟨p,rfl,hp,vs,br,el.away (bj hp _) hp⟩
theorem iH{ds:List D}{p:Addr}(el:El K Y H vs ds)(hp:H p=none)(lv:∀p,Y p->Lv H p):RES K Y H (upd H p (.tup vs)) (.ref p) (.tup ds,false) :=
 .tup ⟨br,fun z=>(lv p z).1 hp⟩ el.1 (el.same (bj hp _)).2
noncomputable def yn:D->D->Option Rz
 | .lst a,.lst b=>if a.length+b.length<=1000000 then some (.lst (a++b),true) else none
 | _,_=>none
theorem ro_cat:RdOp K Dv yn:=by
 intro Y H x y d1 d2 z Q lv b1 b2 e q;cases d1 with
 | lst a =>
  cases d2 with
  | lst b =>
   obtain⟨c,e⟩:=aR e;cases e;obtain⟨p,xs,rfl,hp,el⟩:=b1;obtain⟨p2,ys,rfl,hp2,el2⟩:=b2;exact⟨p,p2,xs,ys,rfl,rfl,hp,hp2,by rw[el.1,el2.1];exact few c,fun r hr=>q _ _ (bj hr _) (fR (el.app el2) hr)⟩
  | _=>cases e
 | _=>cases e
noncomputable def pF:D->D->Option Rz
 | .tup (x::a),.tup (y::b)=>if a.length+b.length<=999998 then some (.tup ((x::a)++(y::b)),false) else none
 | .tup (x::a),.tup []=>if a.length<=999998 then some (.tup (x::a),false) else none
 | _,_=>none
theorem AY:RdOp K (xR K) pF:=by
 intro Y H x y d1 d2 z Q lv b1 b2 e q;cases d1 with
 | tup a =>
  cases a with
  | nil=>cases e
  | cons a0 a =>
  cases d2 with
  | tup b =>
   obtain⟨p,xs,rfl,hp,el⟩:=b1;obtain⟨p2,ys,rfl,hp2,el2⟩:=b2;have hx:xs≠[]:=fun z=>by have:=el.1;rw[z]at this;cases this
   cases b with
   | nil =>
    obtain⟨c,e⟩:=aR e;cases e;obtain rfl:=el2.unnil;exact⟨p,p2,xs,[],rfl,rfl,hp.sq,hp2.sq,hx,by rw[el.1];exact few (by simp;lia),fun _=>q _ H (Same.refl H) (.tup hp el.1 el.2),fun z=>absurd rfl z⟩
   | cons b0 b =>
    obtain⟨c,e⟩:=aR e;cases e;have hy:ys≠[]:=fun z=>by have:=el2.1;rw[z]at this;cases this
    exact⟨p,p2,xs,ys,rfl,rfl,hp.sq,hp2.sq,hx,by rw[el.1,el2.1];exact few (by simp;lia),fun z=>absurd z hy,fun _ r hr=>q _ _ (bj hr _) (iH (el.app el2) hr lv)⟩
  | _=>cases e
 | _=>cases e
noncomputable def cS:=orD rR (orD rV (orD yn pF))
noncomputable def yo:D->D->Option Rz
 | .str a,.int n=>if 0<=n/\n<=1000/\a.length<=1000 then some (.str (Txt.mul a n),false) else none
 | _,_=>none
theorem AZ:RdOp K (fun x y H Q=>∃(a:Str)(n:Int),x=.str a/\y=.int n/\MulOk a n/\Q (.str (Txt.mul a n)) H) yo:=by
 intro Y H x y d1 d2 z Q lv b1 b2 e q;cases d1 with
 | str a =>
  cases d2 with
  | int n =>
   obtain⟨c,e⟩:=aR e;cases e;exact⟨a,n,b1,b2,mulOk_of c.1 c.2.1 c.2.2,q _ H (Same.refl H) (.str _)⟩
  | _=>cases e
 | _=>cases e
noncomputable def oU:=orD u8 yo
noncomputable def FD:D->D->Option Rz
 | .str a,.str b=>some (.bl (decide (a.cps.toList<b.cps.toList)),false)
 | _,_=>none
theorem DO:RdOp K (fun x y H Q=>∃i j,x=.str i/\y=.str j/\Q (.bl (decide (i.cps.toList<j.cps.toList))) H) FD:=by
 intro Y H x y d1 d2 z Q lv b1 b2 e q;cases d1 with
 | str a =>
  cases d2 with
  | str b=>cases e;exact⟨a,b,b1,b2,q _ H (Same.refl H) (.bl _)⟩
  | _=>cases e
 | _=>cases e
noncomputable def bLt:=orD DL FD
noncomputable def yp(neg:Bool):D->D->Option Rz
 | .str a,.str b=>some (.bl (if neg then !(!(Builtin.Str.occurrences b a 0 b.length 1).isEmpty) else !(Builtin.Str.occurrences b a 0 b.length 1).isEmpty),false)
 | _,_=>none
theorem ro_inS:RdOp K (fun x y H Q=>∃i j,x=.str i/\y=.str j/\Q (.bl (!(Builtin.Str.occurrences j i 0 j.length 1).isEmpty)) H) (yp false):=by
 intro Y H x y d1 d2 z Q lv b1 b2 e q;cases d1 with
 | str a =>
  cases d2 with
  | str b=>cases e;exact⟨a,b,b1,b2,q _ H (Same.refl H) (.bl _)⟩
  | _=>cases e
 | _=>cases e
theorem ro_notinS:RdOp K (fun x y H Q=>∃i j,x=.str i/\y=.str j/\Q (.bl (!(!(Builtin.Str.occurrences j i 0 j.length 1).isEmpty))) H) (yp true):=by
 intro Y H x y d1 d2 z Q lv b1 b2 e q;cases d1 with
 | str a =>
  cases d2 with
  | str b=>cases e;exact⟨a,b,b1,b2,q _ H (Same.refl H) (.bl _)⟩
  | _=>cases e
 | _=>cases e
noncomputable def pG:List D->Option (List V)
 | []=>some []
 | d::r=>(scD d).bind fun v=>(pG r).bind fun vs=>some (v::vs)
theorem rW:∀{ds:List D}{vs ws:List V},El K Y H vs ds->pG ds=some ws->vs=ws/\ws.all jA=true
 | [],vs,ws,el,e=>by cases e;exact⟨el.unnil,rfl⟩
 | d::r,vs,ws,el,e=>by
  refine bsO e fun w e1 e=>?_;refine bsO e fun ws' e2 e=>?_;cases e;obtain⟨v,t,rfl,da,el⟩:=el.uncons;obtain⟨rfl,h⟩:=rW el e2;have hv:=lG da.ba e1;subst hv;exact⟨rfl,by rw[List.all_cons,rT e1,h];rfl⟩
noncomputable def D.seq:D->Option (List D)
 | .lst ds=>some ds
 | .tup ds=>some ds
 | .fl ds=>some ds
 | _=>none
theorem qy(h:BA K Y H v d)(e:d.seq=some ds):∃a vs,v=.ref a/\(SqL K H a vs∨SqT K H a vs)/\El K Y H vs ds:=by
 cases d with
 | lst _=>cases e;obtain⟨a,vs,h1,h2,h3⟩:=h;exact⟨a,vs,h1,.inl (.inl (.inl h2)),h3⟩
 | tup _=>cases e;obtain⟨a,vs,h1,h2,h3⟩:=h;exact⟨a,vs,h1,.inr h2.sq,h3⟩
 | fl _=>cases e;obtain⟨a,vs,h1,h2,h3⟩:=h;exact⟨a,vs,h1,.inl h2.sq,h3⟩
 | _=>cases e
noncomputable def A6(neg:Bool):D->D->Option Rz:=fun a b=>(scD a).bind fun x=>(b.seq).bind fun ds=>(pG ds).bind fun ws=>some (.bl (if neg then !inV x ws else inV x ws),false)
theorem yq(neg:Bool):RdOp K (rIn K neg) (A6 neg):=by
 intro Y H x y d1 d2 z Q lv b1 b2 e q;refine bsO e fun x' e1 e=>?_;refine bsO e fun ds e2 e=>?_;refine bsO e fun ws e3 e=>?_;cases e;obtain⟨a,vs,rfl,sq,el⟩:=qy b2 e2;obtain rfl:=lG b1 e1;obtain⟨rfl,h⟩:=rW el e3;exact⟨a,vs,rfl,sq,rT e1,h,q _ H (Same.refl H) (.bl _)⟩
noncomputable def bIn:=orD (yp false) (A6 false)
noncomputable def yt:=orD (yp true) (A6 true)
noncomputable def yu:D->D->Option Rz
 | .lst ds,.int i=>(atI ds i).bind fun d=>some (d,false)
 | .fl ds,.int i=>(atI ds i).bind fun d=>some (d,false)
 | _,_=>none
noncomputable def A7:D->D->Option Rz
 | .tup ds,.int i=>(atI ds i).bind fun d=>some (d,false)
 | _,_=>none
noncomputable def DP:D->D->Option Rz
 | .str z,.int i=>if z.length<=1000000 then(atI z.cps.toList i).bind fun c=>some (.str ⟨#[c]⟩,false) else none
 | _,_=>none
theorem t8{i:Int}(el:El K Y H vs ds)(e:atI ds i=some d):∃v,atI vs i=some v/\DA K Y H v d:=by
 unfold atI at e ⊢;rw[el.1];refine bsO e fun j e1 e2=>?_;obtain⟨v,h1,h2⟩:=el.at e2;exact⟨v,by rw[e1];exact h1,h2⟩
theorem ro_ixL:RdOp K (Do K) yu:=by
 intro Y H x y d1 d2 z Q lv b1 b2 e q;cases d1 with
 | lst a =>
  cases d2 with
  | int i =>
   refine bsO e fun d e1 e=>?_;cases e;obtain⟨p,xs,rfl,hp,el⟩:=b1;obtain⟨v,h1,h2⟩:=t8 el e1;exact⟨p,xs,i,v,rfl,b2,.inl (.inl hp),h1,q v H (Same.refl H) h2⟩
  | _=>cases e
 | fl a =>
  cases d2 with
  | int i =>
   refine bsO e fun d e1 e=>?_;cases e;obtain⟨p,xs,rfl,hp,el⟩:=b1;obtain⟨v,h1,h2⟩:=t8 el e1;exact⟨p,xs,i,v,rfl,b2,hp.sq,h1,q v H (Same.refl H) h2⟩
  | _=>cases e
 | _=>cases e
theorem ro_ixT:RdOp K (Dq K) A7:=by
 intro Y H x y d1 d2 z Q lv b1 b2 e q;cases d1 with
 | tup a =>
  cases d2 with
  | int i =>
   refine bsO e fun d e1 e=>?_;cases e;obtain⟨p,xs,rfl,hp,el⟩:=b1;obtain⟨v,h1,h2⟩:=t8 el e1;exact⟨p,xs,i,v,rfl,b2,hp.sq,h1,q v H (Same.refl H) h2⟩
  | _=>cases e
 | _=>cases e
theorem DQ:RdOp K Dr DP:=by
 intro Y H x y d1 d2 z Q lv b1 b2 e q;cases d1 with
 | str a =>
  cases d2 with
  | int i =>
   obtain⟨c,e⟩:=aR e;refine bsO e fun ch e1 e=>?_;cases e;exact⟨a,i,ch,b1,b2,few c,e1,q _ H (Same.refl H) (.str _)⟩
  | _=>cases e
 | _=>cases e
noncomputable def bIx:=orD yu (orD A7 DP)
theorem aQ:RdOp K (rIx K) bIx:=ro_ixL.or (ro_ixT.or DQ)
noncomputable abbrev FO:=En->Option (Option Int×En)
noncomputable def RdO(K:PySem.W.Frag)(t:TO)(f:FO):Prop:=∀(st:En)(σ:St)(H:Hp)(O Z:AS)(Q:Option Int->Hp->Prop),ER K st σ H O Z->∀c st',f st=some (c,st') ->
 (∀H' O',Ext O H O' H'->Kp st st'->ER K st' σ H' O' Z->Q c H')->t σ H Q
noncomputable def oNo:FO:=fun st=>some (none,st)
theorem lH:RdO K uX oNo:=by
 intro st σ H O Z Q E c st' e q;cases e;exact q H O (Ext.refl _ _) (Kp.refl _) E
noncomputable def asInt(st:En)(r:Rs):Option Int:=match cont st r with
 | some (.int i)=>some i
 | _=>none
noncomputable def kL(fe:FE):FO:=fun st=>(fe st).bind fun x=>(asInt x.2 x.1).bind fun i=>some (some i,x.2)
set_option tactic.hygienic true in
theorem gw{te:TE}{fe:FE}(h:RdE K te fe):RdO K (Cg te) (kL fe):=by
 intro st σ H O Z Q E c st' e q;refine bsP e fun r st1 e1 e=>?_;refine bsO e fun i e2 e=>?_;cases e;refine h st σ H O Z _ E r _ e1 fun v H1 O1 x1 k1 E1 rv w=>?_;have ev:v=.int i:=by
  unfold asInt at e2;split at e2
  ·rename_i j ej
   cases e2;exact rv.ba E1 ej
  ·cases e2
 exact⟨i,ev,q H1 O1 x1 k1 E1⟩
noncomputable def RdSl(K:PySem.W.Frag)(r:V->Option Int->Option Int->Hp->VK->Prop)(b:D->Option Int->Option Int->Option Rz):Prop:=∀(Y:AS)(H:Hp)(x:V)(lo hi:Option Int)(d1:D)(z:Rz)(Q:VK),(∀p,Y p->Lv H p)->BA K Y H x d1->b d1 lo hi=some z ->
 (∀v H',Same H H'->RES K Y H H' v z->Q v H')->r x lo hi H Q
noncomputable def fSl(b:D->Option Int->Option Int->Option Rz)(fe:FE)(fl fh:FO):FE:=fun st=>(fe st).bind fun x=>(fl x.2).bind fun l=>(fh l.2).bind fun u=>(cont u.2 x.1).bind fun d=>(b d l.1 u.1).bind fun z=>some (mk z,u.2)
theorem gx{r:V->Option Int->Option Int->Hp->VK->Prop}{b:D->Option Int->Option Int->Option Rz}{te:TE}{fe:FE}{tl th:TO}{fl fh:FO}(hr:RdSl K r b)(he:RdE K te fe)(hl:RdO K tl fl)(hh:RdO K th fh):RdE K (tSl r te tl th) (fSl b fe fl fh):=by
 intro st σ H O Z Q E r' st' h q;refine bsP h fun r1 st1 e1 h=>?_;refine bsP h fun lo st2 e2 h=>?_;refine bsP h fun hi st3 e3 h=>?_;refine bsO h fun d1 e4 h=>?_;refine bsO h fun z e5 h=>?_;cases h;refine he st σ H O Z _ E r1 st1 e1 fun v1 H1 O1 x1 k1 E1 rv1 w1=>?_;refine hl st1 σ H1 O1 Z _ E1 lo st2 e2 fun H2 O2 x2 k2 E2=>?_;refine hh st2 σ H2 O2 Z _ E2 hi _ e3 fun H3 O3 x3 k3 E3=>?_;have b1:=(rv1.nf.ext (x2.trans x3) (k2.trans k3)).ba E3 (by rw[jh];exact e4)
 refine hr (U O3 Z) H3 v1 lo hi d1 z _ E3.liv b1 e5 fun v H4 s hres=>?_;obtain⟨E4,rv4⟩:=hres.rv E3 s;have xx:=(x1.trans x2).trans x3;exact q v H4 O3 (xx.trans (Same.ext s)) ((k1.trans k2).trans k3) E4 rv4 (hres.fsh.back xx)
noncomputable def cutD(xs:List D)(lo hi:Option Int):List D:=(xs.drop (HT.sIx xs.length 0 lo)).take (HT.sIx xs.length xs.length hi-HT.sIx xs.length 0 lo)
theorem El.cut(el:El K Y H vs ds)(lo hi:Option Int):El K Y H (rH vs lo hi) (cutD ds lo hi):=by
 unfold rH cutD;rw[el.1];exact(el.drop _).take _
noncomputable def orS(b b':D->Option Int->Option Int->Option Rz):D->Option Int->Option Int->Option Rz:=fun x l h=>match b x l h with
 | some z=>some z
 | none=>b' x l h
set_option tactic.hygienic true in
theorem RdSl.or{r r':V->Option Int->Option Int->Hp->VK->Prop}{b b':D->Option Int->Option Int->Option Rz}(h:RdSl K r b)(h':RdSl K r' b'):RdSl K (fun x lo hi H Q=>r x lo hi H Q∨r' x lo hi H Q) (orS b b'):=by
 intro Y H x lo hi d1 z Q lv b1 e q;unfold orS at e;split at e
 ·rename_i z' ez
  cases e;exact .inl (h Y H x lo hi d1 z Q lv b1 ez q)
 ·exact .inr (h' Y H x lo hi d1 z Q lv b1 e q)
noncomputable def wN:D->Option Int->Option Int->Option Rz
 | .lst ds,lo,hi=>some (.lst (cutD ds lo hi),true)
 | .fl ds,lo,hi=>some (.lst (cutD ds lo hi),true)
 | _,_,_=>none
theorem FF:RdSl K (Dt K) wN:=by
 intro Y H x lo hi d1 z Q lv b1 e q;cases d1 with
 | lst a =>
  cases e;obtain⟨p,xs,rfl,hp,el⟩:=b1;exact⟨p,xs,rfl,.inl (.inl hp),fun r hr=>q _ _ (bj hr _) (fR (el.cut lo hi) hr)⟩
 | fl a =>
  cases e;obtain⟨p,xs,rfl,hp,el⟩:=b1;exact⟨p,xs,rfl,hp.sq,fun r hr=>q _ _ (bj hr _) (fR (el.cut lo hi) hr)⟩
 | _=>cases e
noncomputable def mC:D->Option Int->Option Int->Option Rz
 | .tup ds,lo,hi=>if HT.sIx ds.length 0 lo=0/\HT.sIx ds.length ds.length hi=ds.length then none else some (.tup (cutD ds lo hi),false)
 | _,_,_=>none
theorem FJ:RdSl K (Dl K) mC:=by
 intro Y H x lo hi d1 z Q lv b1 e q;cases d1 with
 | tup a =>
  by_cases c:HT.sIx a.length 0 lo=0/\HT.sIx a.length a.length hi=a.length
  ·simp only[mC,if_pos c]at e;cases e
  ·simp only[mC,if_neg c]at e;cases e;obtain⟨p,xs,rfl,hp,el⟩:=b1;exact⟨p,xs,rfl,hp.sq,by rw[el.1];exact c,fun r hr=>q _ _ (bj hr _) (iH (el.cut lo hi) hr lv)⟩
 | _=>cases e
noncomputable def yw:D->Option Int->Option Int->Option Rz
 | .str z,lo,hi=>if z.length<=1000000 then some (.str (Txt.slice z lo hi),false) else none
 | _,_,_=>none
theorem FK:RdSl K (fun x lo hi H Q=>∃z:Str,x=.str z/\z.length<=sizeLine/\Q (.str (Txt.slice z lo hi)) H) yw:=by
 intro Y H x lo hi d1 z Q lv b1 e q;cases d1 with
 | str a =>
  obtain⟨c,e⟩:=aR e;cases e;exact⟨a,b1,few c,q _ H (Same.refl H) (.str _)⟩
 | _=>cases e
noncomputable def bSl:=orS wN (orS mC yw)
noncomputable def Cs:List D->Option Rz
 | [d]=>(d.seq).bind fun ds=>some (.int ds.length,false)
 | _=>none
theorem rc_lenQ:RdCB K (fun xs H Q=>∃p ys,xs=[.ref p]/\(SqL K H p ys∨SqT K H p ys)/\Q (.int ys.length) H) Cs:=by
 intro Y H xs ds z Q lv bs e q;cases bs with
 | nil=>cases e
 | cons b1 bs =>
  cases bs with
  | cons _ _=>cases e
  | nil =>
   refine bsO e fun es e1 e=>?_;cases e;obtain⟨a,vs,rfl,sq,el⟩:=qy b1 e1;refine⟨a,vs,rfl,sq,?_⟩;rw[el.1];exact q _ H (Same.refl H) (.int _)
noncomputable def Ct:List D->Option Rz
 | [.str z]=>if z.length<=1000000 then some (.int z.length,false) else none
 | _=>none
theorem A8:RdCB K (fun xs H Q=>∃z:Str,xs=[.str z]/\z.length<=sizeLine/\Q (.int z.length) H) Ct:=by
 intro Y H xs ds z Q lv bs e q;cases bs with
 | nil=>cases e
 | @cons v vs d ds b1 bs =>
  cases bs with
  | cons _ _=>cases d<;>cases e
  | nil =>
   cases d with
   | str a =>
    obtain⟨c,e⟩:=aR e;cases e;exact⟨a,by rw[show v=V.str a from b1],few c,q _ H (Same.refl H) (.int _)⟩
   | _=>cases e
noncomputable def eU:=orC Cs Ct
noncomputable def Cu:List D->Option Rz
 | [d]=>(d.seq).bind fun ds=>some (.lst ds,true)
 | _=>none
theorem rc_list:RdCB K (fun xs H Q=>∃p ys,xs=[.ref p]/\(SqL K H p ys∨SqT K H p ys)/\∀l,H l=none->Q (.ref l) (upd H l (.lst ys))) Cu:=by
 intro Y H xs ds z Q lv bs e q;cases bs with
 | nil=>cases e
 | cons b1 bs =>
  cases bs with
  | cons _ _=>cases e
  | nil =>
   refine bsO e fun es e1 e=>?_;cases e;obtain⟨a,vs,rfl,sq,el⟩:=qy b1 e1;exact⟨a,vs,rfl,sq,fun r hr=>q _ _ (bj hr _) (fR el hr)⟩
noncomputable def yx:List D->Option Rz
 | [.lst ds]=>some (.tup ds,false)
 | [.fl ds]=>some (.tup ds,false)
 | [.tup ds]=>some (.tup ds,false)
 | _=>none
theorem rc_tuple:RdCB K (fun xs H Q=>∃p ys,xs=[.ref p]/\((SqL K H p ys/\∀l,H l=none->Q (.ref l) (upd H l (.tup ys)))∨(SqT K H p ys/\Q (.ref p) H))) yx:=by
 intro Y H xs ds z Q lv bs e q;cases bs with
 | nil=>cases e
 | @cons v vs d ds b1 bs =>
  cases bs with
  | cons _ _=>cases d<;>cases e
  | nil =>
   cases d with
   | lst a =>
    cases e;obtain⟨p,xs,rfl,hp,el⟩:=b1;exact⟨p,xs,rfl,.inl ⟨.inl (.inl hp),fun r hr=>q _ _ (bj hr _) (iH el hr lv)⟩⟩
   | fl a =>
    cases e;obtain⟨p,xs,rfl,hp,el⟩:=b1;exact⟨p,xs,rfl,.inl ⟨hp.sq,fun r hr=>q _ _ (bj hr _) (iH el hr lv)⟩⟩
   | tup a =>
    cases e;obtain⟨p,xs,rfl,hp,el⟩:=b1;exact⟨p,xs,rfl,.inr ⟨hp.sq,q _ H (Same.refl H) (.tup hp el.1 el.2)⟩⟩
   | _=>cases e
noncomputable def pH:List D->Option (List Bool)
 | []=>some []
 | .bl b::r=>(pH r).bind fun bs=>some (b::bs)
 | _=>none
theorem rX:∀{ds:List D}{vs:List V}{bs:List Bool},El K Y H vs ds->pH ds=some bs->vs=bs.map V.bl
 | [],vs,bs,el,e=>by cases e;exact el.unnil
 | d::r,vs,bs,el,e=>by
  obtain⟨v,t,rfl,da,el2⟩:=el.uncons;cases d with
  | bl b =>
   refine bsO e fun bs' e1 e=>?_;cases e;have h:=rX el2 e1;rw[h,show v=V.bl b from da.ba];rfl
  | _=>cases e
noncomputable def A9:List D->Option Rz
 | [.lst ds]=>(pH ds).bind fun bs=>some (.bl (bs.all id),false)
 | _=>none
theorem yy:RdCB K (fun xs H Q=>∃(p:Addr)(bs:List Bool),xs=[.ref p]/\SqL K H p (bs.map V.bl)/\Q (.bl (bs.all id)) H) A9:=by
 intro Y H xs ds z Q lv bs e q;cases bs with
 | nil=>cases e
 | @cons v vs d ds b1 bs =>
  cases bs with
  | cons _ _=>cases d<;>cases e
  | nil =>
   cases d with
   | lst a =>
    refine bsO e fun bs e1 e=>?_;cases e;obtain⟨p,xs,rfl,hp,el⟩:=b1;obtain rfl:=rX el e1;exact⟨p,bs,rfl,.inl (.inl hp),q _ H (Same.refl H) (.bl _)⟩
   | _=>cases e
noncomputable def yz(K:PySem.W.Frag)(r:V->List V->Hp->VK->Prop)(b:D->List D->Option Rz):Prop:=∀(Y:AS)(H:Hp)(x:V)(xs:List V)(d:D)(ds:List D)(z:Rz)(Q:VK),(∀p,Y p->Lv H p)->BA K Y H x d->BAs K Y H xs ds->b d ds=some z ->
 (∀v H',Same H H'->RES K Y H H' v z->Q v H')->r x xs H Q
noncomputable def DR(T:String):D->Bool
 | .str _=>decide (T="str")
 | .lst _=>decide (T="list")
 | .dk _=>decide (T="dict")
 | .dt _=>decide (T="dict")
 | _=>false
theorem FL{T:String}(h:BA K Y H v d)(e:DR T d=true):tyV K T v H:=by
 cases d with
 | str x =>
  have e':T="str":=of_decide_eq_true e;rw[show v=V.str x from h];exact e'
 | lst x=>obtain⟨a,vs,rfl,h1,_⟩:=h;exact .inl ⟨of_decide_eq_true e,vs,.inl (.inl h1)⟩
 | dk x=>obtain⟨a,vs,rfl,h1,_⟩:=h;exact .inr (.inr (.inl ⟨of_decide_eq_true e,.inl ⟨vs,h1⟩⟩))
 | dt x=>obtain⟨a,ep,vs,rfl,_,h1,_⟩:=h;exact .inr (.inr (.inl ⟨of_decide_eq_true e,.inr ⟨ep,vs,h1⟩⟩))
 | _=>cases e
noncomputable def fBM(T:String)(b:D->List D->Option Rz)(fo:FE)(fa:FA):FE:=fun st=>(fo st).bind fun x=>(cont x.2 x.1).bind fun d0=>if DR T d0=true then(fa x.2).bind fun y=>(cont y.2 x.1).bind fun d=>(dQ y.2 y.1).bind fun ds=>(b d ds).bind fun z=>some (mk z,y.2) else none
theorem pI{T:String}{r:V->List V->Hp->VK->Prop}{b:D->List D->Option Rz}{to:TE}{fo:FE}{ta:TA}{fa:FA}(hr:yz K r b)(ho:RdE K to fo)(ha:RdA K ta fa):RdE K (tBM K T r to ta) (fBM T b fo fa):=by
 intro st σ H O Z Q E r' st' h q;refine bsP h fun r1 st1 e1 h=>?_;refine bsO h fun d0 e2 h=>?_;obtain⟨c,h⟩:=aR h;refine bsP h fun rs st2 e3 h=>?_;refine bsO h fun d e4 h=>?_;refine bsO h fun ds e5 h=>?_;refine bsO h fun z e6 h=>?_;cases h;refine ho st σ H O Z _ E r1 st1 e1 fun v1 H1 O1 x1 k1 E1 rv1 w1=>⟨FL (rv1.ba E1 e2) c,?_⟩;refine ha st1 σ H1 O1 Z _ E1 rs _ e3 fun vs H2 O2 x2 k2 E2 rvs=>?_;have b1:=(rv1.nf.ext x2 k2).ba E2 (by rw[jh];exact e4)
 refine hr (U O2 Z) H2 v1 vs d ds z _ E2.liv b1 (rvs.bas E2 e5) e6 fun v H3 s hres=>?_;obtain⟨E3,rv3⟩:=hres.rv E2 s;exact q v H3 O2 ((x1.trans x2).trans (Same.ext s)) (k1.trans k2) E3 rv3 (hres.fsh.back (x1.trans x2))
noncomputable def fY:List D->Option (List Str)
 | []=>some []
 | .str x::r=>(fY r).bind fun xs=>some (x::xs)
 | _=>none
theorem jj:∀{ds:List D}{vs:List V}{xs:List Str},El K Y H vs ds->fY ds=some xs->vs=xs.map V.str
 | [],vs,xs,el,e=>by cases e;exact el.unnil
 | d::r,vs,xs,el,e=>by
  obtain⟨v,t,rfl,da,el2⟩:=el.uncons;cases d with
  | str b =>
   refine bsO e fun xs' e1 e=>?_;cases e;have h:=jj el2 e1;rw[h,show v=V.str b from da.ba];rfl
  | _=>cases e
noncomputable def yA:D->List D->Option Rz
 | .str sep,[.lst ds]=>(fY ds).bind fun ys=>if (ys.map (·.length)).sum+ys.length*sep.length<=16777216 then some (.str (Txt.join sep ys),false) else none
 | _,_=>none
theorem Ba:yz K (fun x vs H Q=>∃(sep:Str)(p:Addr)(ys:List Str),x=.str sep/\vs=[.ref p]/\SqL K H p (ys.map V.str)/\(ys.map (·.length)).sum+ys.length*sep.length<=16777216/\Q (.str (Txt.join sep ys)) H) yA:=by
 intro Y H x xs d ds z Q lv b1 bs e q;cases d with
 | str sep =>
  cases bs with
  | nil=>cases e
  | @cons v vs d ds b2 bs =>
   cases bs with
   | cons _ _=>cases d<;>cases e
   | nil =>
    cases d with
    | lst es =>
     refine bsO e fun ys e1 e=>?_;obtain⟨c,e⟩:=aR e;cases e;obtain⟨p,ws,rfl,hp,el⟩:=b2;obtain rfl:=jj el e1;exact⟨sep,p,ys,b1,rfl,.inl (.inl hp),c,q _ H (Same.refl H) (.str _)⟩
    | _=>cases e
 | _=>cases e
noncomputable def u9:D->List D->Option Rz
 | .str a,[.str b]=>some (.bl (Txt.startswith a b),false)
 | _,_=>none
theorem wO:yz K (fun x vs H Q=>∃(a b:Str),x=.str a/\vs=[.str b]/\Q (.bl (Txt.startswith a b)) H) u9:=by
 intro Y H x xs d ds z Q lv b1 bs e q;cases d with
 | str a =>
  cases bs with
  | nil=>cases e
  | @cons v vs d ds b2 bs =>
   cases bs with
   | cons _ _=>cases d<;>cases e
   | nil =>
    cases d with
    | str b=>cases e;exact⟨a,b,b1,by rw[show v=V.str b from b2],q _ H (Same.refl H) (.bl _)⟩
    | _=>cases e
 | _=>cases e
noncomputable def isL:D->Bool
 | .lst _=>true
 | _=>false
theorem tyL{p:Addr}{x:D}(h:OA K Y H p x)(e:isL x=true):tyV K "list" (.ref p) H:=by
 cases x with
 | lst ds=>obtain⟨vs,h1,_⟩:=h;exact .inl ⟨rfl,vs,.inl (.inl h1)⟩
 | _=>cases e
theorem El.upd{p:Addr}{o:HO}(h:El K Y H vs ds)(hp:Y p):El K Y (L2.upd H p o) vs ds:=h.go (fun b u e n=>by
 have hb:b≠p:=fun z=>n (by rw[z];exact hp)
 rw[aT hb];exact e) fun b z=>.inl z
theorem DA.upd{p:Addr}{o:HO}(h:DA K Y H v d)(hp:Y p):DA K Y (L2.upd H p o) v d:=h.go (fun b u e n=>by
 have hb:b≠p:=fun z=>n (by rw[z];exact hp)
 rw[aT hb];exact e) fun b z=>.inl z
noncomputable def cH:D->List D->Option (D×D)
 | .lst xs,[y]=>if xs.length<1000000 then some (.non,.lst (xs++[y])) else none
 | _,_=>none
theorem cM:RdM K "list" uZ isL cH:=⟨fun Y H p x h e=>tyL h e,fun Y H p x vs ds y x' Q hp ho el e q=>by
 cases x with
 | lst xs =>
  cases ds with
  | nil=>cases e
  | cons d ds =>
   cases ds with
   | cons _ _=>cases e
   | nil =>
    obtain⟨c,e⟩:=aR e;cases e;obtain⟨ws,h1,h2⟩:=ho;obtain⟨v,r,rfl,da,el⟩:=el.uncons;obtain rfl:=el.unnil;exact⟨p,ws,v,rfl,rfl,h1,by rw[h2.1];exact few (by lia),q .non _ .non ⟨_,br,(h2.app (El.one da)).upd hp⟩⟩
 | _=>cases e⟩
noncomputable def t9:D->List D->Option (D×D)
 | .lst xs,[]=>(xs[xs.length-1]?).bind fun y=>some (y,.lst xs.dropLast)
 | _,_=>none
theorem yB:RdM K "list" Fq isL t9:=⟨fun Y H p x h e=>tyL h e,fun Y H p x vs ds y x' Q hp ho el e q=>by
 cases x with
 | lst xs =>
  cases ds with
  | cons _ _=>cases e
  | nil =>
   refine bsO e fun y' e1 e=>?_;cases e;obtain⟨ws,h1,h2⟩:=ho;obtain rfl:=el.unnil;obtain⟨v,g1,g2⟩:=h2.at e1;refine⟨p,ws,v,rfl,rfl,h1,by rw[h2.1];exact g1,q v _ (g2.upd hp) ⟨_,br,?_⟩⟩
   rw[List.dropLast_eq_take,List.dropLast_eq_take,h2.1];exact(h2.take _).upd hp
 | _=>cases e⟩
noncomputable def qz:D->List D->Option (D×D)
 | .lst xs,[.int i]=>if -(2 ^ 63)<=i/\i<2 ^ 63 then(seqIndex? i xs.length).bind fun k=>(xs[k]?).bind fun y=>some (y,.lst (xs.eraseIdx k)) else none
 | _,_=>none
theorem yC:RdM K "list" xX isL qz:=⟨fun Y H p x h e=>tyL h e,fun Y H p x vs ds y x' Q hp ho el e q=>by
 cases x with
 | lst xs =>
  cases ds with
  | nil=>cases e
  | cons d ds =>
   cases d with
   | int i =>
    cases ds with
    | cons _ _=>cases e
    | nil =>
     obtain⟨c,e⟩:=aR e;refine bsO e fun k e1 e=>?_;refine bsO e fun y' e2 e=>?_;cases e;obtain⟨ws,h1,h2⟩:=ho;obtain⟨v,r,rfl,da,el⟩:=el.uncons;obtain rfl:=el.unnil;obtain rfl:=(show v=V.int i from da.ba);obtain⟨u,g1,g2⟩:=h2.at e2;exact⟨p,ws,i,k,u,rfl,rfl,h1,c.1,c.2,by rw[h2.1];exact e1,g1,q u _ (g2.upd hp) ⟨_,br,(h2.erase k).upd hp⟩⟩
   | _=>cases ds<;>cases e
 | _=>cases e⟩
noncomputable def nG:D->D->D->Option D
 | .lst xs,.int k,v=>(ixN xs.length k).bind fun j=>some (.lst (xs.set j v))
 | _,_,_=>none
theorem fw:yc K Ch nG:=by
 intro Y H p x k v dk dv x' Q hp ho bk da e q;cases x with
 | lst xs =>
  cases dk with
  | int i =>
   refine bsO e fun j e1 e=>?_;cases e;obtain⟨ws,h1,h2⟩:=ho;exact⟨p,ws,i,j,rfl,bk,h1,by rw[h2.1];exact e1,q _ ⟨_,br,(h2.set da j).upd hp⟩⟩
  | _=>cases e
 | _=>cases e
noncomputable def yD(xs:List Str):FA:=fun st=>some (xs.map fun x=>.d (.str x),st)
theorem va{xs:List Str}:RdA K (Cj xs) (yD xs):=by
 intro st σ H O Z Q E rs st' e q;cases e;refine q _ H O (Ext.refl _ _) (Kp.refl _) E ?_;clear q;induction xs with
 | nil=>exact .nil
 | cons x r ih=>exact .cons (show DA K _ H (.str x) (.str x) from .str x) ih
end
end VF
namespace VF
open PySem PySem.Spec PyProof.Rows L2
section
variable {X:Cx}{K:PySem.W.Frag}{Y:AS}{H:Hp}{v:V}{d:D}{vs:List V}{ds:List D}
noncomputable def yE(K:PySem.W.Frag):R2:=fun x y H Q=>(rI0 fun i j=>.int (i+j)) x y H Q∨((∃i j,x=.str i/\y=.str j/\i.length+j.length<=sizeLine/\Q (.str (i++j)) H)∨(Dv x y H Q∨xR K x y H Q))
theorem bQ(h:X.K=K):OpR X (binaryOp .Add) (yE K):=op_add.or (op_add_str.or (op_cat.or (h ▸ AH)))
theorem ro_addA:RdOp K (yE K) cS:=ro_addI.or (ro_addS.or (ro_cat.or AY))
noncomputable def Cw:R2:=fun x y H Q=>(rI CMul fun i j=>.int (i*j)) x y H Q∨(∃(a:Str)(n:Int),x=.str a/\y=.int n/\MulOk a n/\Q (.str (Txt.mul a n)) H)
theorem mS:OpR X (binaryOp .Mult) Cw:=op_mul.or tY
theorem mT:RdOp K Cw oU:=ro_mulI.or AZ
noncomputable def FM:R2:=fun x y H Q=>(rI0 fun i j=>.bl (decide (i<j))) x y H Q∨(∃i j,x=.str i/\y=.str j/\Q (.bl (decide (i.cps.toList<j.cps.toList))) H)
theorem ua:OpR X (compareOp .Lt) FM:=op_lt.or wt
theorem ub:RdOp K FM bLt:=ro_ltI.or DO
noncomputable def FN(K:PySem.W.Frag):R2:=fun x y H Q=>(∃i j,x=.str i/\y=.str j/\Q (.bl (!(Builtin.Str.occurrences j i 0 j.length 1).isEmpty)) H)∨rIn K false x y H Q
theorem DS(h:X.K=K):OpR X (compareOp .In) (FN K):=op_in_str.or (h ▸ wA)
theorem DT:RdOp K (FN K) bIn:=ro_inS.or (yq false)
noncomputable def vb(K:PySem.W.Frag):R2:=fun x y H Q=>(∃i j,x=.str i/\y=.str j/\Q (.bl (!(!(Builtin.Str.occurrences j i 0 j.length 1).isEmpty))) H)∨rIn K true x y H Q
theorem wP(h:X.K=K):OpR X (compareOp .NotIn) (vb K):=op_notin_str.or (h ▸ qj)
theorem wQ:RdOp K (vb K) yt:=ro_notinS.or (yq true)
noncomputable def bEq:=wM false
theorem cK(_:X.K=K)(_:X.A.units+64<cLine):OpR X (compareOp .Eq) rEq:=Fg
theorem ro_eqA:RdOp K rEq bEq:=DN
noncomputable def FP:D->D->Option Rz
 | .lst xs,.lst []=>some (.bl (!xs.isEmpty),false)
 | _,_=>none
noncomputable def FQ(K:PySem.W.Frag):R2:=fun x y H Q=>∃(a b:Addr)(xs:List V),x=.ref a/\y=.ref b/\SqL K H a xs/\SqL K H b []/\Q (.bl (!xs.isEmpty)) H
theorem DU:RdOp K (FQ K) FP:=by
 intro Y H x y d1 d2 z Q lv b1 b2 e q;cases d1 with
 | lst xs =>
  cases d2 with
  | lst ys =>
   cases ys with
   | nil =>
    cases e;obtain⟨p,ws,rfl,hp,el⟩:=b1;obtain⟨p2,zs,rfl,hp2,el2⟩:=b2;obtain rfl:=el2.unnil;refine⟨p,p2,ws,rfl,rfl,.inl (.inl hp),.inl (.inl hp2),?_⟩;have e:ws.isEmpty=xs.isEmpty:=by
     cases ws with
     | nil=>cases xs with
      | nil=>rfl
      | cons _ _=>cases el.1
     | cons _ _=>cases xs with
      | nil=>cases el.1
      | cons _ _=>rfl
    rw[e];exact q _ H (Same.refl H) (.bl _)
   | cons _ _=>cases e
  | _=>cases e
 | _=>cases e
noncomputable def bNe:=orD (wM true) FP
noncomputable def DV(K:PySem.W.Frag):R2:=fun x y H Q=>rNe x y H Q∨FQ K x y H Q
theorem fZ(h:X.K=K)(hu:X.A.units+64<cLine):OpR X (compareOp .NotEq) (DV K):=op_ne.or (by subst h;exact DE (by lia))
theorem ro_neA:RdOp K (DV K) bNe:=ro_neS.or DU
noncomputable def DW(K:PySem.W.Frag):V->Option Int->Option Int->Hp->VK->Prop:=fun x lo hi H Q=>Dt K x lo hi H Q∨(Dl K x lo hi H Q∨(∃z:Str,x=.str z/\z.length<=sizeLine/\Q (.str (Txt.slice z lo hi)) H))
theorem nH(h:X.K=K):SlR X (DW K):=SlR.or (h ▸ AJ) (SlR.or (h ▸ Dm) DC)
theorem kM:RdSl K (DW K) bSl:=RdSl.or FF (RdSl.or FJ FK)
noncomputable def Cy(K:PySem.W.Frag):List V->Hp->VK->Prop:=fun xs H Q=>(∃p ys,xs=[.ref p]/\(SqL K H p ys∨SqT K H p ys)/\Q (.int ys.length) H)∨(∃z:Str,xs=[.str z]/\z.length<=sizeLine/\Q (.int z.length) H)
theorem cb(h:X.K=K):CallR X (.builtin "len") (Cy K):=CallR.or (h ▸ qk) ql
theorem et:RdCB K (Cy K) eU:=rc_lenQ.or A8
theorem yF(z:Str):El K Y H (sgn z) (rP z):=by
 refine⟨by simp[sgn,rP],fun i v d h1 h2=>?_⟩
 unfold sgn at h1;unfold rP at h2;rw[Wc]at h1 h2;obtain⟨c,e1,rfl⟩:=Xd.mp h1;rw[e1]at h2;obtain rfl:=Option.some.inj h2;exact .str _
noncomputable def yG:List D->Option Rz
 | [.str z]=>if z.cps.size<=1000000 then some (.lst (rP z),true) else none
 | _=>none
noncomputable def yH:List V->Hp->VK->Prop:=fun xs H Q=>∃z:Str,xs=[.str z]/\z.cps.size<=sizeLine/\∀l,H l=none->Q (.ref l) (upd H l (.lst (sgn z)))
theorem yI:RdCB K yH yG:=by
 intro Y H xs ds z Q lv bs e q;cases bs with
 | nil=>cases e
 | @cons v vs d ds b1 bs =>
  cases bs with
  | cons _ _=>cases d<;>cases e
  | nil =>
   cases d with
   | str a =>
    obtain⟨c,e⟩:=aR e;cases e;exact⟨a,by rw[show v=V.str a from b1],few c,fun r hr=>q _ _ (bj hr _) (fR (yF a) hr)⟩
   | _=>cases e
noncomputable def vc:List D->Option Rz
 | [.str z]=>if z.cps.size<=1000000 then some (.tup (rP z),false) else none
 | _=>none
noncomputable def vd:List V->Hp->VK->Prop:=fun xs H Q=>∃z:Str,xs=[.str z]/\z.cps.size<=sizeLine/\∀l,H l=none->Q (.ref l) (upd H l (.tup (sgn z)))
theorem wR:RdCB K vd vc:=by
 intro Y H xs ds z Q lv bs e q;cases bs with
 | nil=>cases e
 | @cons v vs d ds b1 bs =>
  cases bs with
  | cons _ _=>cases d<;>cases e
  | nil =>
   cases d with
   | str a =>
    obtain⟨c,e⟩:=aR e;cases e;exact⟨a,by rw[show v=V.str a from b1],few c,fun r hr=>q _ _ (bj hr _) (iH (yF a) hr lv)⟩
   | _=>cases e
noncomputable def uc:=orC Cu yG
noncomputable def b8:=orC yx vc
noncomputable def yJ(K:PySem.W.Frag):List V->Hp->VK->Prop:=fun xs H Q=>(∃p ys,xs=[.ref p]/\(SqL K H p ys∨SqT K H p ys)/\∀l,H l=none->Q (.ref l) (upd H l (.lst ys)))∨yH xs H Q
noncomputable def ve(K:PySem.W.Frag):List V->Hp->VK->Prop:=fun xs H Q=>(∃p ys,xs=[.ref p]/\((SqL K H p ys/\∀l,H l=none->Q (.ref l) (upd H l (.tup ys)))∨(SqT K H p ys/\Q (.ref p) H)))∨vd xs H Q
theorem nI(h:X.K=K)(hc:X.calm=true):CallR X (.type "list") (yJ K):=CallR.or (h ▸ qm) (nC hc)
theorem bF(h:X.K=K)(hc:X.calm=true):CallR X (.type "tuple") (ve K):=CallR.or (h ▸ oQ) (mw hc)
theorem rY:RdCB K (yJ K) uc:=rc_list.or yI
theorem bY:RdCB K (ve K) b8:=rc_tuple.or wR
noncomputable def tyN:D->String
 | .non=>"NoneType"
 | .bl _=>"bool"
 | .int _=>"int"
 | .str _=>"str"
 | .tup _=>"tuple"
 | .lst _=>"list"
 | .fl _=>"list"
 | .dk _=>"dict"
 | .dt _=>"dict"
 | .ty _=>"type"
noncomputable def yK(n T:String):Bool:=n == T||(n == "bool"&&T == "int")
theorem DX:∀n∈["NoneType","bool","int","str","tuple","list","dict"],∀T∈["bool","int","str","tuple","list","dict"],
  (if (Value.type n == Value.type T)=true then some true else if PySem.W.kitMeta T=true then(fastBuiltinMro n).map (·.contains (Value.type T)) else none)=some (yK n T):=by decide +kernel
noncomputable def GR:List D->Option Rz
 | [d,.ty T]=>if (["bool","int","str","tuple","list","dict"].contains T&&tyN d != "type")=true then some (.bl (yK (tyN d) T),false) else none
 | _=>none
noncomputable def bZ:=GR
noncomputable def FU(K:PySem.W.Frag):List V->Hp->VK->Prop:=fun xs H Q=>∃(Y:AS)(x:V)(d:D)(T:String),xs=[x,.ty T]/\BA K Y H x d/\(["bool","int","str","tuple","list","dict"].contains T&&tyN d != "type")=true/\Q (.bl (yK (tyN d) T)) H
theorem bO:RdCB K (FU K) bZ:=by
 intro Y H xs ds z Q lv bs e q;cases bs with
 | nil=>cases e
 | @cons v vs d ds b1 bs =>
  cases bs with
  | nil=>cases e
  | @cons v2 vs2 d2 ds2 b2 bs =>
   cases bs with
   | cons _ _=>cases d2<;>cases e
   | nil =>
    cases d2 with
    | ty T =>
     obtain⟨c,e⟩:=aR e;cases e;exact⟨Y,v,d,T,by rw[show v2=V.ty T from b2],b1,c,q _ H (Same.refl H) (.bl _)⟩
    | _=>cases e
theorem aY(h:X.K=K):CallR X (.builtin "isinstance") (FU K):=by
 subst h;intro pins s σ H xs us Q I rv h;obtain⟨Y,x,d,T,rfl,b1,c,q⟩:=h;obtain⟨u,w',rfl,rx,ry⟩:=vals2 rv;cases (show w'=Value.type T from ry);rw[Yi]at c;have hT:T∈["bool","int","str","tuple","list","dict"]:=List.contains_iff_mem.mp c.1;have fin:∀tk,EP X pins σ Q (.bool (yK (tyN d) T)) { s with toks:=tk }:=fun tk=>⟨.bl _,H,I.tok tk,rfl,q⟩;have ko:∀n∈["NoneType","bool","int","str","tuple","list","dict"],tyN d=n->PySem.W.kitOne X.K (.type n) (.type T)=some (yK (tyN d) T):=fun n hn e=>by
  rw[e];exact DD (DX n hn T hT)
 cases d with
 | non =>
  obtain rfl:=(show x=V.non from b1);exact ee I rx .non (ko "NoneType" (by decide) rfl) fin
 | bl b =>
  obtain rfl:=(show x=V.bl b from b1);exact ee I rx (.bl b) (ko "bool" (by decide) rfl) fin
 | int i =>
  obtain rfl:=(show x=V.int i from b1);exact ee I rx (.int i) (ko "int" (by decide) rfl) fin
 | str z =>
  obtain rfl:=(show x=V.str z from b1);exact ee I rx (.str z) (ko "str" (by decide) rfl) fin
 | ty n=>exact absurd c.2 (by simp[tyN])
 | lst ds =>
  obtain⟨a,vs,rfl,h1,_⟩:=b1;exact ee I rx (.lst h1) (ko "list" (by decide) rfl) fin
 | fl ds =>
  obtain⟨a,vs,rfl,h1,_⟩:=b1;cases (show u=Value.ref a from rx);obtain⟨its,_,pl,_⟩:=I.list h1.sq;obtain⟨o,ho,hc,_⟩:=pl.isList;exact PySem.W.kia_one PySem.W.kitx_list I.kIn ⟨o,ho,hc⟩ (ko "list" (by decide) rfl) (fun z=>nomatch z) fin
 | tup ds =>
  obtain⟨a,vs,rfl,h1,_⟩:=b1;cases (show u=Value.ref a from rx);obtain⟨its,_,pl,_⟩:=I.tuple h1.sq;obtain⟨o,ho,hc,_⟩:=pl;exact PySem.W.kia_one PySem.W.kitx_tuple I.kIn ⟨o,ho,hc⟩ (ko "tuple" (by decide) rfl) (fun z=>nomatch z) fin
 | dk ds =>
  obtain⟨a,vs,rfl,h1,_⟩:=b1;exact ee I rx (.dK h1) (ko "dict" (by decide) rfl) fin
 | dt ds =>
  obtain⟨a,ep,vs,rfl,_,h1,_⟩:=b1;exact ee I rx (.dT h1) (ko "dict" (by decide) rfl) fin
theorem mD(l:Addr)(its:Array Value)(n:Nat)(b:Addr)(more:Array Value)(m:Nat)(dd:Option Addr)(sl:Array (Option Value))(h0:¬(!its.isEmpty&&Builtin.List.listTooLong (its.size+more.size))=true)(h1:its.size<=sizeLine)(h2:its.size+more.size<=sizeLine+1) :
  Meets (Builtin.«list.extend» ⟨[.ref l,.ref b],[]⟩) (fun _ R s=>s.heap.get? l=some { cls:=.type "list",dict:=none,data:=.seq its n,slots:=#[] }/\s.heap.get? b=some { cls:=.type "tuple",dict:=dd,data:=.seq more m,slots:=sl }/\R (.ok (.ret Value.none)) { s with heap:=s.heap.update l (Obj.mapSeq fun x=>x++more),toks:=s.toks }) :=
 .of_wp fun prog w A R s0 hh=>by
  obtain⟨hp,gg,dp,tks,oo⟩:=s0;obtain⟨hl,hb,hR⟩:=hh;have a1:=AutoSeq1.idx_int;have a2:=AutoSeq1.sub_tuple_tuple;have a3:=AutoSeq1.sub_list_list;have a4:=AutoSeq1.sub_tuple_list;have a5:=AutoSeq1.sub_list_tuple;have fits:(its++more).size<=sizeLine+1:=by
   rw[Array.size_append];exact h2
  wp_walk using (wpAny_updateSeq hl rfl (hz:=h1) (_hz':=fits)),wpAny_loadPart' hl,wpAny_loadPart' hb
  exact⟨_,rfl,hR⟩
noncomputable def Cz(K:PySem.W.Frag):V->List V->Hp->VK->Prop:=fun x vs H Q=>∃l b xs zs,x=.ref l/\vs=[.ref b]/\H l=some (.lst xs)/\SqT K H b zs/\xs.length+zs.length<=sizeLine/\Q .non (upd H l (.lst (xs++zs)))
theorem Bb(h:X.K=K):MtM X "list.extend" (Cz K):=by
 subst h;intro pins s σ H x vs v us Q I rx rv h;obtain⟨l,b,xs,zs,rfl,rfl,hH,hB,hz,q⟩:=h;cases rx;obtain⟨u,rfl,ru⟩:=rv.one;cases ru;obtain⟨z,its,n,r,hl,e⟩:=I.lstM hH;obtain⟨its2,r2,pl,hz2⟩:=I.tuple hB;obtain⟨⟨c2,dd2,d2,sl2⟩,ho2,hc2,n2,hd2⟩:=id pl;obtain rfl:c2=.type "tuple":=hc2;obtain rfl:d2=.seq its2.toArray n2:=hd2;have hl2:=r2.length;have hsz:its.toArray.size+its2.toArray.size<=sizeLine:=by rw[Vb,Vb];lia
 have hlong:¬ (!its.toArray.isEmpty&&Builtin.List.listTooLong (its.toArray.size+its2.toArray.size))=true:=by
  rw[rJ hsz,Bool.and_false];exact Yd
 refine call_meets F.slot_list_extend ⟨_,e,rfl⟩ F.entry_list_extend (F.args_list_extend_2 _ _)
  (mD l its.toArray n b its2.toArray n2 dd2 sl2 hlong (by rw[Vb];lia) (by lia)) ⟨e,ho2,?_⟩
 refine⟨.non,_,I.lset (its':=its++its2) hH e (by simp) (r.append r2) ?_,rfl,q⟩
 rw[Xa];lia
noncomputable def CB(K:PySem.W.Frag):V->List V->Hp->VK->Prop:=fun x vs H Q=>u3 x vs H Q∨Cz K x vs H Q
theorem ud(h:X.K=K)(_:X.calm=true):MtM X "list.extend" (CB K):=by
 intro pins s σ H x vs v us Q I rx rv hh;rcases hh with hh|hh
 ·exact wB pins s σ H x vs v us Q I rx rv hh
 ·exact Bb h pins s σ H x vs v us Q I rx rv hh
noncomputable def mU:D->List D->Option (D×D)
 | .lst xs,[.lst ys]=>if xs.length+ys.length<=1000000 then some (.non,.lst (xs++ys)) else none
 | .lst xs,[.tup ys]=>if xs.length+ys.length<=1000000 then some (.non,.lst (xs++ys)) else none
 | _,_=>none
theorem wT:RdM K "list" (CB K) isL mU:=⟨fun Y H p x h e=>tyL h e,fun Y H p x vs ds y x' Q hp ho el e q=>by
 cases x with
 | lst xs =>
  cases ds with
  | nil=>cases e
  | cons d ds =>
   cases ds with
   | cons _ _=>cases d<;>cases e
   | nil =>
    obtain⟨ws,h1,h2⟩:=ho;obtain⟨v,r,rfl,da,el⟩:=el.uncons;obtain rfl:=el.unnil;cases d with
    | lst ys =>
     obtain⟨c,e⟩:=aR e;cases e;cases da with
     | @lst a us _ g0 g1 g2 g3=>exact .inl ⟨p,a,ws,us,rfl,rfl,h1,g1,by rw[h2.1,g2];exact few c,q .non _ .non ⟨_,br,(h2.app ⟨g2,g3⟩).upd hp⟩⟩
    | tup ys =>
     obtain⟨c,e⟩:=aR e;cases e;cases da with
     | @tup a us _ g1 g2 g3=>exact .inr ⟨p,a,ws,us,rfl,rfl,h1,g1.sq,by rw[h2.1,g2];exact few c,q .non _ .non ⟨_,br,(h2.app ⟨g2,g3⟩).upd hp⟩⟩
    | _=>cases e
 | _=>cases e⟩
noncomputable def FV(K:PySem.W.Frag)(tl:TE):TI:=fun σ H R=>uP K tl σ H R∨(C8 K tl σ H R∨Dz tl σ H R)
theorem dE{tg l:Expr}{tl:TE}(h:X.K=K)(hl:PE X l tl):PI X tg l (FV K tl):=by
 subst h;intro pins s σ H R I hh;rcases hh with hh|hh|hh
 ·exact AA hl pins s σ H R I hh
 ·exact C9 hl pins s σ H R I hh
 ·exact DB hl pins s σ H R I hh
noncomputable def fIA(fe:FE):FI:=fun st=>match fIL fe st with
 | some z=>some z
 | none=>match fIT fe st with
  | some z=>some z
  | none=>fIS fe st
set_option tactic.hygienic true in
theorem dF{te:TE}{fe:FE}(h:RdE K te fe):RdI K (FV K te) (fIA fe):=by
 intro st σ H O Z R E items st' e q;unfold fIA at e;split at e
 ·rename_i z ez
  cases e;exact .inl (AT h st σ H O Z R E items st' ez q)
 ·split at e
  ·rename_i z ez
   cases e;exact .inr (.inl (DF h st σ H O Z R E items st' ez q))
  ·exact .inr (.inr (DH h st σ H O Z R E items st' e q))
end
end VF
namespace VF
open PySem PySem.Spec PyProof.Rows L2
section
theorem nx_slot:Slot "reversed" "__next__" "reversed.__next__":=by
 refine .of (owner:="reversed") (n:="__next__") ?_ ?_ ?_ ?_ ?_ ?_
 ·rw[typeLookup_type,builtinLookup_eq_fast]
  kernel_rfl
 ·decide +kernel
 ·decide +kernel
 ·decide +kernel
 ·first
   | exact .inl (by decide +kernel)
   | exact .inr (by decide +kernel)
 ·rw[isSubtype_type]
  kernel_rfl
theorem vf:Slot "reversed" "__iter__" "reversed.__iter__":=by
 refine .of (owner:="reversed") (n:="__iter__") ?_ ?_ ?_ ?_ ?_ ?_
 ·rw[typeLookup_type,builtinLookup_eq_fast]
  kernel_rfl
 ·decide +kernel
 ·decide +kernel
 ·decide +kernel
 ·first
   | exact .inl (by decide +kernel)
   | exact .inr (by decide +kernel)
 ·rw[isSubtype_type]
  kernel_rfl
theorem rZ:entryFor table "reversed.__next__"=some Builtin.«reversed.__next__»:=by
 refine entryFor_of_tree ?_
 kernel_rfl
theorem vg(a:Value):argsOk "reversed.__next__" ⟨[a],[]⟩:=by
 unfold argsOk
 kernel_rfl
theorem Bc(a:Value):argsOk "reversed.__iter__" ⟨[a],[]⟩:=by
 unfold argsOk
 kernel_rfl
theorem yL:entryFor table "reversed.__iter__"=some Builtin.«dict_keyiterator.__iter__»:=by
 refine entryFor_alias (id':="dict_keyiterator.__iter__") ?_ ?_ ?_ ?_
 ·kernel_rfl
 ·first
   | rfl
   | decide +kernel
   | (unfold String.splitOn;simp +decide [String.splitOnAux])
 ·decide +kernel
 ·kernel_rfl
variable {prog:Program}{w:World}{A:Around}{E:Value->Shared->Prop}{s:Shared}
noncomputable def IsRv(h:Heap)(it a:Addr)(i:Int):Prop:=∃o,h.get? it=some o/\o.cls=.type "reversed"/\o.data=.fields #[.ref a,rawInt i]
theorem IsRv.ty{it a:Addr}{i:Int}(x:IsRv s.heap it a i):s.TypeIs (.ref it) "reversed":=by
 obtain⟨o,ho,hc,_⟩:=x;exact⟨o,ho,hc⟩
theorem Be{it a:Addr}{i:Nat}{items:Array Value}{x:Value}{Q:Option Value->Shared->Prop}(hit:IsRv s.heap it a (i:Int))(ht:IsTup s.heap a items)(hx:items[i]?=some x)(hz:items.size<=sizeLine)
  (hQ:∀h' t',IsRv h' it a ((i:Int)-1)->Heap.SameBut it s.heap h'->Q (some x) { s with heap:=h',toks:=t' }):wpAny (model prog w) A (pyNext (.ref it)) Q E s:=by
 obtain⟨o,ho,hc,hd⟩:=id hit;have hi:i<items.size:=(Array.getElem?_eq_some_iff.mp hx).1;have hs:=sizeLine_eq;unfold pyNext;refine wpAny_bind (wpAny_attempt (wpAny_callSpecial?_slot (name:=Str.ofString "__next__") hit.ty nx_slot (wpAny_call_entry nx_slot hit.ty rZ ?_ (vg _))));unfold Builtin.«reversed.__next__»;refine wpAny_bind (wpAny_of_eq (a:=(Value.ref it,[])) rfl ?_)
 try dsimp only
 refine wpAny_bind (wpAny_field ho hd (x:=.ref a) rfl ?_);refine wpAny_bind (wpAny_field ho hd (x:=rawInt (i:Int)) rfl ?_);show wpAny _ _ (if (i:Int)<0 then _ else _) _ _ s;rw[if_neg (show ¬ ((i:Int)<0) by lia)]
 refine wpAny_bind (wpAny_specialOf ht.typeIs F.slot_tuple_getitem.lookup ?_)
 try dsimp only
 rw[if_neg (by simp)]
 refine wpAny_bind (wpAny_mkInt ?_);refine wpAny_bind (wpAny_attempt (getItem_tuple (s:={ s with toks:=s.toks+1 }) (show IsTup s.heap a items from ht) (by lia) (by lia) (seqIndex_of (by lia) (by lia)) (by simpa using hx) ?_))
 refine wpAny_bind (wpAny_field (s:={ s with toks:=s.toks+1 }) ho hd (x:=rawInt (i:Int)) rfl ?_);show wpAny _ _ (setField (Value.ref it) 1 (rawInt ((i:Int)-1)) >>= _) _ _ _;refine wpAny_bind (wpAny_setField (s:={ s with toks:=s.toks+1 }) ho hd (by simp) ?_)
 refine wpAny_pure ⟨x,rfl,wpAny_pure (hQ _ _ ?_ (Heap.SameBut.update ..))⟩;refine⟨_,Heap.get?_update_self _ ho (Obj.isFreed_of_fields (Obj.data_mapFields hd _)),(Obj.cls_mapFields ..).trans hc,?_⟩;rw[Obj.data_mapFields hd];simp
theorem DY{it a:Addr}{j:Int}{Q:Option Value->Shared->Prop}(hh:A.handled=none)(hit:IsRv s.heap it a j)(hj:j<0)
  (hQ:∀h',Heap.ExtBut it s.heap h'->Q none { s with heap:=h' }):wpAny (model prog w) A (pyNext (.ref it)) Q E s:=by
 obtain⟨o,ho,hc,hd⟩:=id hit;unfold pyNext;refine wpAny_bind (wpAny_attempt (wpAny_callSpecial?_slot (name:=Str.ofString "__next__") hit.ty nx_slot (wpAny_call_entry nx_slot hit.ty rZ ?_ (vg _))));unfold Builtin.«reversed.__next__»;refine wpAny_bind (wpAny_of_eq (a:=(Value.ref it,[])) rfl ?_)
 try dsimp only
 refine wpAny_bind (wpAny_field ho hd (x:=.ref a) rfl ?_);refine wpAny_bind (wpAny_field ho hd (x:=rawInt j) rfl ?_);show wpAny _ _ (if j<0 then _ else _) _ _ s;rw[if_pos hj];refine wpAny_bind (wpAny_rule ?_);refine wpAny_bind ?_;show wpAny _ _ (setField (Value.ref it) 1 (rawInt (-1)) >>= fun _=>setField (Value.ref it) 0 .none) _ _ s;refine wpAny_bind (wpAny_setField ho hd (by simp) ?_)
 have g1:=Heap.get?_update_self (Obj.mapFields (·.setIfInBounds 1 (rawInt (-1)))) ho (Obj.isFreed_of_fields (Obj.data_mapFields hd _));refine wpAny_setField g1 (Obj.data_mapFields hd _) (by simp) ?_
 refine wpAny_bind ?_;show wpAny _ _ (newExc (.type "StopIteration") [] >>= _) _ _ _;refine wpAny_bind ?_;simp only[newExc,newTuple];refine wpAny_bind (wpAny_newObj_type ?_ (by size_fits))
 refine wpAny_bind (m:=firstArgMember _ _) (wpAny_of_eq (a:=Value.none) (by first|rfl|(simp only[firstArgMember];rfl)) ?_)
 refine wpAny_newObj_type ?_ (by size_fits)
 simp only[raiseNew];refine wpAny_bind (wpAny_handled ?_)
 first|rw[show A.in1.handled=none from hh]|rw[hh]
 refine wpAny_bind (wpAny_pure (wpAny_throw ?_));refine wpAny_bind (wpAny_isInstance (T:="StopIteration") (b:=true) ⟨_,Heap.get?_push_size _ rfl,rfl⟩ isSubtype_stop ?_);refine wpAny_pure (hQ _ ?_);have e1:Heap.ExtBut it s.heap (s.heap.update it (Obj.mapFields (·.setIfInBounds 1 (rawInt (-1))))):=fun b o2 hb e=>(Heap.get?_update_other s.heap _ (Ne.symm hb)).trans e;have e2:Heap.ExtBut it s.heap ((s.heap.update it (Obj.mapFields (·.setIfInBounds 1 (rawInt (-1))))).update it (Obj.mapFields (·.setIfInBounds 0 .none))):=fun b o2 hb e=>(Heap.get?_update_other _ _ (Ne.symm hb)).trans (e1 b o2 hb e);exact(e2.push _).push _
theorem vh{it a:Addr}{i:Int}{Q:Value->Shared->Prop}(hit:IsRv s.heap it a i)(h:Q (.ref it) s):wpAny (model prog w) A (pyIter (.ref it)) Q E s:=by
 refine wpAny_pyIter_slot hit.ty vf (wpAny_call_entry vf hit.ty yL ?_ (Bc _));show wpAny _ _ (ret (.ref it)) _ _ s;exact wpAny_pure ⟨_,rfl,"reversed",_,hit.ty,nx_slot.lookup,h⟩
theorem DZ:typeLookup (.type "tuple") "__reversed__"=pure none:=by
 rw[typeLookup_type,builtinLookup_eq_fast]
 kernel_rfl
theorem D0:isSubtype (.type "tuple") (.type "dict")=pure false:=by
 rw[isSubtype_type]
 kernel_rfl
noncomputable def r6(a:Addr)(i:Int):Obj:={ cls:=.type "reversed",data:=.fields #[.ref a,rawInt i] }
theorem yM(a:Addr)(items:Array Value)(hz:items.size<=sizeLine) :
  Meets (Builtin.«reversed.__new__» ⟨[.type "reversed",.ref a],[]⟩) (fun _ R s=>IsTup s.heap a items/\∀t',R (.ok (.ret (.ref s.heap.objs.size))) { s with heap:=s.heap.push (r6 a ((items.size:Int)-1)),toks:=t' }):=by
 have hs:=sizeLine_eq;refine .of_wp fun prog w A R s h=>?_;obtain⟨ht,hR⟩:=h;unfold Builtin.«reversed.__new__»;refine wpAny_bind (wpAny_of_eq (PySem.newClass_reversed _) ?_)
 try dsimp only
 refine wpAny_bind (wpAny_of_eq (a:=()) (by first|rfl|kernel_rfl) ?_)
 refine wpAny_bind (wpAny_of_eq (a:=()) (by first|rfl|kernel_rfl) ?_)
 try dsimp only
 refine wpAny_bind (wpAny_specialOf ht.typeIs DZ ?_)
 try dsimp only
 refine wpAny_bind ?_;show wpAny _ _ (isInstance (.ref a) (.type "dict") >>= _) _ _ s;refine wpAny_bind (wpAny_isInstance (T:="tuple") (b:=false) ht.typeIs D0 ?_);rw[if_neg (by decide)]
 refine wpAny_bind (wpAny_specialOf ht.typeIs F.slot_tuple_getitem.lookup ?_);refine wpAny_pure ?_;rw[if_neg (by decide)]
 refine wpAny_bind (len_tuple ht (by lia) ?_)
 refine wpAny_bind (wpAny_of_eq (a:=some ((items.size:Nat):Int)) rfl ?_);show wpAny _ _ (newObj (.type "reversed") (.fields #[.ref a,rawInt ((items.size:Int)-1)]) >>= _) _ _ _;exact wpAny_bind (wpAny_newObj_type (wpAny_pure ⟨_,rfl,hR _⟩))
theorem Bg:Slot "reversed" "__init__" "object.__init__":=by
 refine .of (owner:="object") (n:="__init__") ?_ ?_ ?_ ?_ ?_ ?_
 ·rw[typeLookup_type,builtinLookup_eq_fast]
  kernel_rfl
 ·decide +kernel
 ·decide +kernel
 ·decide +kernel
 ·first
   | exact .inl (by decide +kernel)
   | exact .inr (by decide +kernel)
 ·rw[isSubtype_type]
  kernel_rfl
theorem wU:TypeCalled "reversed" "reversed.__new__" "object.__init__":=by
 refine⟨?_,?_,⟨_,_,F.mro_reversed⟩,F.made_reversed,F.plain_reversed_new,F.sub_reversed_self,Bg⟩
 ·decide +kernel
 ·exact F.create_reversed
theorem Bh{a:Addr}{items:Array Value}{Q:Value->Shared->Prop}(ht:IsTup s.heap a items)(hz:items.size<=sizeLine)
  (h:∀t',Q (.ref s.heap.objs.size) { s with heap:=s.heap.push (r6 a ((items.size:Int)-1)),toks:=t' }):wpAny (model prog w) A (call (.type "reversed") [.ref a]) Q E s :=
 callType_new wU (by decide) (F.typeCall_reversed_1 _) (F.newCall_reversed_1 _) (fun obj=>F.args_object_init_2 obj _) F.entry_reversed_new (yM a items hz) ⟨ht,fun t'=>⟨⟨_,Heap.get?_push_size _ rfl,rfl⟩,h t'⟩⟩
noncomputable def Itv(K:PySem.W.Frag)(a:Addr)(xs:List V):It:=⟨fun i H=>SqT K H a xs/\i<xs.length,fun i H v H'=>H'=H/\xs.reverse[i]?=some v,fun i _=>xs.length<=i⟩
theorem Bi{P:Program}{w:World}{K:PySem.W.Frag}{tg:Expr}(a it:Addr)(xs:List V):Turn P w K tg (Itv K a xs) [it] it (fun i h=>IsRv h it a ((xs.length:Int)-1-(i:Nat))) where
 mem:=by simp
 obj:=fun i h st b hb=>by
  have e:b=it:=by simpa using hb
  subst e;obtain⟨o,e,c,d⟩:=st;exact⟨o,e,fun v z=>by rw[d]at z;cases z⟩
 keep:=fun i h h' st k=>by
  obtain⟨o,e,r⟩:=st;exact⟨o,k it (by simp) o e,r⟩
 item:=by
  intro X hP hw hK hc i pins s σ H E I hf st hg;subst hP hw hK;obtain⟨f0,f1,f2,f3,f4,f5⟩:=hf it (by simp)
  obtain⟨hq,hi⟩:=hg;obtain⟨its,rv,p,hz⟩:=I.tuple hq;have hl:=rv.length;have e1:((xs.length:Int)-1-(i:Nat))=((xs.length-1-i:Nat):Int):=by lia
  rw[e1]at st;have hx:xs.reverse[i]?=some (xs[xs.length-1-i]'(by lia)):=by
   rw[List.getElem?_reverse hi,Za (by lia)]
  obtain⟨u,hu,ru⟩:=rv.get (Za (show xs.length-1-i<xs.length by lia))
  refine Be st p (x:=u) (by simpa using hu) (by rw[Vb];lia) fun h' t' st' sb=>?_
  have I1:Inv X pins σ H { s with heap:=h',toks:=t' }:=I.turned (fun b o hb e=>sb.extBut b o hb e) f0 f1 f3 f4 f5;obtain⟨o,e,c,d⟩:=id st';have e2:(((xs.length-1-i:Nat):Int)-1)=((xs.length:Int)-1-((i+1:Nat):Int)):=by lia
  rw[e2]at st';exact⟨u,rfl,o9 (s:={ s with heap:=h',toks:=t' }) e c d (by decide) ⟨_,H,I1,ru,⟨rfl,hx⟩,st',fun b hb=>(hf b hb).1⟩⟩
 done:=by
  intro X hP hw hK hc i pins s σ H E I hf st hg;subst hP hw hK;obtain⟨f0,f1,f2,f3,f4,f5⟩:=hf it (by simp)
  have hg':xs.length<=i:=hg;exact DY (I.ok.hd hc) st (by lia) fun h' eb=>⟨rfl,I.turned (t':=s.toks) (fun b o hb e=>eb b o hb e) f0 f1 f3 f4 f5⟩
 self:=fun _ _ _ _ _ st h=>vh st h
end
section
variable {X:Cx}{K:PySem.W.Frag}
noncomputable def D1(K:PySem.W.Frag)(ta:TA):TI:=fun σ H R=>ta σ H fun vs H1=>∃a xs,vs=[.ref a]/\SqT K H1 a xs/\R (Itv K a xs) H1
theorem boot_reversed:bootBuiltins "reversed"=some (.type "reversed"):=by decide +kernel
theorem Bj{tg a:Expr}{ta:TA}{p pos:Pos}(hg:Gl X "reversed")(hm:X.mg "reversed"=none)(ha:PA X [a] ta)(hs:starEach [a] X.env=[(false,eval a X.env)]:=by rfl):PI X tg (.Call (.Name "reversed" p) [a] [] pos) (D1 X.K ta):=by
 intro pins s σ H R I h;refine Call_ (jM I hg hm boot_reversed (PyProof.Rows.callWith_type1 (thn (ha pos pins s σ H _ I h) fun us s1 ⟨vs,H1,I1,r1,q1⟩=>?_) hs rfl));obtain⟨b,xs,e,hq,q⟩:=q1;subst e;cases r1 with
 | cons r rr =>
  cases rr;cases r;obtain⟨its,rv,pt,hz⟩:=I1.tuple hq;have hl:=rv.length;refine Bh pt (by rw[Vb];lia) fun t'=>?_
  have I2:Inv X pins σ H1 { s1 with heap:=s1.heap.push (r6 b ((its.toArray.size:Int)-1)),toks:=t' }:=I1.kept fun c o e=>Heap.get?_push_of_some _ e;have st:IsRv (s1.heap.push (r6 b ((its.toArray.size:Int)-1))) s1.heap.objs.size b ((xs.length:Int)-1-((0:Nat):Int)):=by
   refine⟨_,Heap.get?_push_size _ rfl,rfl,?_⟩;show Data.fields #[.ref b,rawInt ((its.toArray.size:Int)-1)]=_;rw[Vb,← hl];simp
  refine vh (s:={ s1 with heap:=s1.heap.push (r6 b ((its.toArray.size:Int)-1)),toks:=t' }) st ⟨s1.heap.objs.size,[s1.heap.objs.size],_,_,H1,rfl,I2,Bi b _ xs,st,fun c hc=>?_,q⟩;have e:c=s1.heap.objs.size:=by simpa using hc
  subst e;exact I1.fpOk (Va _) (I1.hok.fresh (Va _))
theorem r9{tg a:Expr}{te:TE}{p pos:Pos}(h:X.K=K)(hg:Gl X "reversed")(hs:starEach [a] X.env=[(false,eval a X.env)])(hm:X.mg "reversed"=none)(ha:PE X a te):PI X tg (.Call (.Name "reversed" p) [a] [] pos) (D1 K (kz te wv)):=by
 subst h;exact Bj hg hm (kB ha ag hs) hs
noncomputable def vk(fe:FE):FI:=fun st=>(fe st).bind fun x=>(cont x.2 x.1).bind fun d=>(d.itt).bind fun ds=>some (ds.reverse,x.2)
theorem D2{te:TE}{fe:FE}(h:RdE K te fe):RdI K (D1 K (kz te wv)) (vk fe):=by
 intro st σ H O Z R E items st' e q;refine bsP e fun r st1 e1 e=>?_;refine bsO e fun d e2 e=>?_;refine bsO e fun ds e3 e=>?_;cases e;refine h st σ H O Z _ E r _ e1 fun v H1 O1 x1 k1 E1 rv w1=>?_;cases d with
 | tup ds' =>
  cases e3;obtain⟨a,vs,rfl,h1,el⟩:=rv.ba E1 e2;refine⟨a,vs,rfl,h1.sq,q _ H1 O1 x1 k1 E1 fun H' O' ex _=>?_⟩;have da':=(DA.tup h1 el.1 el.2).ext ex;have el':=el.ext ex;have hl:=el.1;have sq:SqT K H' a vs:=TupA.sq (Y:=U O1 Z) (h1.go (fun b o e ny=>ex.kp b o e fun z=>ny (.inl z)) fun b z=>.inl z);refine⟨fun i hi=>?_,fun i d hd=>?_⟩
  ·show vs.length<=i;rw[List.length_reverse]at hi;lia
  ·have hi:i<vs.length:=by
    have:=(Yb.mp hd).1;rw[List.length_reverse]at this;lia
   refine⟨⟨sq,hi⟩,fun x H'' hx=>?_⟩;obtain⟨rfl,hx⟩:=hx;exact⟨Same.refl _,el'.rev.2 i x d hx hd⟩
 | _=>cases e3
end
end VF
namespace VF
open PySem PySem.Spec PyProof.Rows L2
section
variable {X:Cx}{K:PySem.W.Frag}{Y:AS}{H:Hp}{v:V}{d:D}{vs:List V}{ds:List D}
noncomputable def leS(a b:Str):Prop:=¬ b.cps.toList<a.cps.toList
noncomputable instance (a b:Str):Decidable (leS a b):=by unfold leS;infer_instance
theorem yN{a b:Str}(h:leS a b)(g:leS b a):a=b:=by
 unfold leS at *;rw[List.not_lt]at *;have e:=List.le_antisymm h g;cases a;cases b;exact congrArg Str.mk (Array.toList_inj.mp e)
theorem boot_sorted:bootBuiltins "sorted"=some (.builtin "sorted"):=by decide +kernel
end
end VF
namespace VF
open PySem L2
section
variable {K:PySem.W.Frag}
theorem eZ{X:Cx}{x:Str}{T:String}{pos:Pos}(hg:Gl X x)(hm:X.mg x=none)(hv:bootBuiltins x=some (.type T))(hn:x≠"__name__":=by decide)(hd:(x == ("__debug__":Str))=false:=by decide):PE X (.Name x pos) (tC (.ty T)):=Az hg hm hv rfl hn hd
noncomputable def vm(K:PySem.W.Frag):Sp:=fun vs H Q _=>∃(a:Addr)(ns:List Int),vs=[.ref a]/\SqL K H a (ns.map V.int)/\ns.length<=63/\∀H',Q (.bl true) H'
end
end VF
namespace VF
open PySem L2
inductive Dp:Nat->D->Prop where
 | bl (n:Nat) (b:Bool):Dp (n+1) (.bl b)
 | int (n:Nat) (i:Int):Dp (n+1) (.int i)
 | str (n:Nat) (x:Str):Dp (n+1) (.str x)
 | tup {n:Nat} {ds:List D}:ds.length<=1000000->(∀d∈ds,Dp n d)->Dp (n+1) (.tup ds)
 | lst {n:Nat} {ds:List D}:ds.length<=1000000->(∀d∈ds,Dp n d)->Dp (n+1) (.lst ds)
open Classical in
noncomputable def dU(n:Nat):List D->Option Rz
 | [u,v]=>if u=v/\Dp n u then some (.bl true,false) else none
 | _=>none
open Classical in
theorem nJ{n:Nat}{u:D}(h:Dp n u):dU n [u,u]=some (.bl true,false):=by
 show(if u=u/\Dp n u then some (D.bl true,false) else none)=_;rw[if_pos ⟨rfl,h⟩]
set_option tactic.hygienic true in
theorem pJ{n:Nat}{ds:List D}{z:Rz}(h:dU n ds=some z):∃u,ds=[u,u]/\Dp n u/\z=(.bl true,false):=by
 unfold dU at h;split at h
 ·rename_i u v
  by_cases c:u=v/\Dp n u
  ·rw[if_pos c]at h;obtain⟨rfl,c⟩:=c;exact⟨u,rfl,c,(Option.some.inj h).symm⟩
  ·rw[if_neg c]at h;cases h
 ·cases h
end VF
namespace VF
open PySem L2
section
variable {st st1 st2 st3 s s1 s2:En}{r r1 r2:Rs}{d d1 d2 x y x':D}{ds es:List D}{rs:List Rs}{z:Rz}{o:Ot}{i k n m:Nat}{F G B:FS}{fa fb fe fi':FE}{fr:FA}{f g:FT}{fi:FI}{fg:FG}{caps:List Nat}
theorem az{a:Option Ot}(h:F st=some (.nx s))(h2:G s=a):aS F G st=a:=by simp only[aS,h,Qb];exact h2
theorem f6(h:F st=some (.rt r s)):aS F G st=some (.rt r s):=by simp only[aS,h,Qb]
theorem iI{a:Option Ot}(h:f st=some (true,s))(h2:F s=a):sIf f F G st=a:=by simp only[sIf,h,Qb,if_true];exact h2
theorem dM{a:Option Ot}(h:f st=some (false,s))(h2:G s=a):sIf f F G st=a:=by simp only[sIf,h,Qb,Qe,if_false];exact h2
theorem dW(h:fe st=some (.d x,s))(h2:qq i (.v x) s=some s1):bU fe i st=some (.nx s1):=by simp only[bU,h,Qb,h2]
theorem gy(h:fe st=some (.f x,s))(h2:qq i (.o x) s=some s1):bU fe i st=some (.nx s1):=by simp only[bU,h,Qb,h2]
theorem dX(h:fe st=some (r,s)):dR fe st=some (.nx s):=by simp only[dR,h,Qb]
theorem aZ(h:fe st=some (r,s)):bE fe st=some (.rt r s):=by simp only[bE,h,Qb]
theorem aC{b:D->D->Option Rz}(h1:fa st=some (r1,s1))(h2:fb s1=some (r2,s2))(h3:cont s2 r1=some d1)(h4:cont s2 r2=some d2)(h5:b d1 d2=some z)(hz:mk z=r:=by rfl):fOp b fa fb st=some (r,s2):=by
 simp only[fOp,h1,h2,h3,h4,h5,hz,Qb]
theorem ay(h1:fa st=some (r,s1))(h2:fr s1=some (rs,s2)):ae fa fr st=some (r::rs,s2):=by simp only[ae,h1,h2,Qb]
theorem bH{b:List D->Option Rz}(h1:fr st=some (rs,s1))(h2:dQ s1 rs=some ds)(h3:b ds=some z)(hz:mk z=r:=by rfl):fCB b fr st=some (r,s1):=by simp only[fCB,h1,h2,h3,hz,Qb]
theorem bq{b:List D->Option Rz}(h1:fr st=some (rs,s1))(h2:ef rs s1=some (ds,s2))(h3:b ds=some z)(hz:mk z=r:=by rfl):bB b fr st=some (r,s2):=by simp only[bB,h1,h2,h3,hz,Qb]
theorem bx{b:List D->Option Rz}(h1:fr st=some (rs,s1))(h2:dQ s1 rs=some ds)(h3:b ds=some (d,false))(h4:d.isSc=true):bc b fr st=some (.d d,s1):=by
 simp only[bc,h1,h2,h3,Qb,h4];rfl
theorem cR{b:D->List D->Option (Rz×D)}{t t0:Sl}{x0:D}(h0:st[i]?=some t0)(h00:t0.ow=some x0)(h1:fr st=some (rs,s1))(h2:ef rs s1=some (ds,s2))(h3:s2[i]?=some t)(h4:t.ow=some x)(h5:b x ds=some (z,x'))(hz:mk z=r:=by rfl)(h6:s2.set i (t.put x')=st3:=by rfl):fIO b i fr st=some (r,st3):=by
 simp only[fIO,h0,h00,h1,h2,h3,h4,h5,h6,hz,Qb]
theorem mE{ok:D->Bool}{mm:D->List D->Option (D×D)}{t t0:Sl}{x0:D}(h0:st[i]?=some t0)(h00:t0.ow=some x0)(hk:ok x0=true)(h1:fr st=some (rs,s1))(h2:ef rs s1=some (ds,s2))(h3:s2[i]?=some t)(h4:t.ow=some x)(h5:mm x ds=some (y,x'))(h6:s2.set i (t.put x')=st3:=by rfl):fM ok mm i fr st=some (.d y,st3):=by
 simp only[fM,h0,h00,hk,h1,h2,h3,h4,h5,h6,Qb,if_true]
theorem aN{c:Bool}(h:fe st=some (r,s))(h2:tru s r=some c):aH fe st=some (c,s):=by simp only[aH,h,h2,Qb]
theorem qA{c:Bool}(h:f st=some (c,s)):iD f st=some (!c,s):=by simp only[iD,h,Qb]
theorem gz{a:Option (Bool×En)}(h:f st=some (true,s))(h2:g s=a):eY f g st=a:=by simp only[eY,h,Qb,if_true];exact h2
theorem lX(h:f st=some (false,s)):eY f g st=some (false,s):=by simp only[eY,h,Qb,Qe,if_false]
theorem D3{a:Option (Bool×En)}(h:f st=some (false,s))(h2:g s=a):oT f g st=a:=by simp only[oT,h,Qb,Qe,if_false];exact h2
theorem nK{a:Option (Rs×En)}(h:fa st=some (r,s))(h1:tru s r=some true)(h2:fb s=a):iE fa fb st=a:=by simp only[iE,h,h1,Qb,if_true];exact h2
theorem cY{fc:FT}(h1:fi st=some (ds,s1))(h2:(qu caps s1.length&&decide (ds.length<=1000000))=true)(h3:db fg fc fe k ds (jy k caps s1)=some (es,s2))(h4:wb caps (s2.drop k) s1=st3:=by rfl):eN k caps fi fg fc fe st=some (.f (.lst es),st3):=by
 simp only[eN,h1,Qb];rw[if_pos h2,h3,← h4];rfl
theorem f7(h1:fi st=some (ds,s1))(h2:ii fg B ds s1=some o):jx fi fg B st=some o:=by simp only[jx,h1,Qb];exact h2
theorem bi(h0:ds.length=m)(h1:F (gP n ds)=some o)(h2:fin o=some z):bM F n m ds=some z:=by
 simp only[bM,if_pos h0,h1,Qb];exact h2
theorem cN{w:Rz×D}(h0:ds.length+1=m)(h1:F (fX n x ds)=some o)(h2:Cq o=some w):dD F n m x ds=some w:=by
 simp only[dD,if_pos h0,h1,Qb];exact h2
theorem pK{fc:FT}(h:D->D):∀(items:List D)(sb:En),(∀x∈items,∃s1 s2 y s3 s4,fg x sb=some s1/\fc s1=some (true,s2)/\fe s2=some (y,s3)/\esc y s3=some (h x,s4)/\rst k s4=sb)->db fg fc fe k items sb=some (items.map h,sb)
 | [],sb,_=>rfl
 | x::r,sb,hh=>by
  obtain⟨s1,s2,y,s3,s4,e1,e2,e3,e4,e5⟩:=hh x Zc;have ih:=pK h r sb fun z hz=>hh z (Xb _ hz);simp only[db,e1,e2,e3,e4,Qb,if_true,e5,ih,Xf]
theorem pL{fc:FT}(I:List D->En->Prop)(step:∀(pre:List D)(x:D)(sb:En),I pre sb->∃s1 s2 y s3 d s4,fg x sb=some s1/\fc s1=some (true,s2)/\fe s2=some (y,s3)/\esc y s3=some (d,s4)/\I (pre++[d]) (rst k s4)) :
  ∀(items:List D)(pre:List D)(sb:En),I pre sb->∃ds sf,db fg fc fe k items sb=some (ds,sf)/\ds.length=items.length/\I (pre++ds) sf
 | [],pre,sb,h=>⟨[],sb,rfl,rfl,by rw[Ve];exact h⟩
 | x::r,pre,sb,h=>by
  obtain⟨s1,s2,y,s3,d,s4,e1,e2,e3,e4,e5⟩:=step pre x sb h;obtain⟨ds,sf,e6,e7,e8⟩:=pL I step r (pre++[d]) (rst k s4) e5;refine⟨d::ds,sf,?_,by simp[e7],by rw[Vd]at e8;exact e8⟩
  simp only[db,e1,e2,e3,e4,Qb,if_true,e6]
theorem nM(I:Nat->En->Prop)(Out:En->Prop)(step:∀(m:Nat)(st:En),I m st->(∃s1,f st=some (false,s1)/\Out s1)∨∃s1 s2 m',f st=some (true,s1)/\B s1=some (.nx s2)/\m'<m/\I m' s2) :
  ∀(n m:Nat)(st:En),m<n->I m st->∃sf,sWh f B n st=some (.nx sf)/\Out sf
 | 0,m,st,hn,_=>absurd hn (Nat.not_lt_zero _)
 | n+1,m,st,hn,h=>by
  rcases step m st h with⟨s1,e1,ho⟩|⟨s1,s2,m',e1,e2,hm,h2⟩
  ·exact⟨s1,by simp only[sWh,e1,Qb,Qe,if_false],ho⟩
  ·obtain⟨sf,e3,ho⟩:=nM I Out step n m' s2 (by lia) h2
   exact⟨sf,by simp only[sWh,e1,e2,Qb,if_true];exact e3,ho⟩
end
end VF
namespace VF
open PySem L2
theorem ix_str{z:Str}{i:Int}{c:Nat}(hz:z.length<=1000000)(h:atI z.cps.toList i=some c):bIx (.str z) (.int i)=some (.str ⟨#[c]⟩,false):=by
 have e1:yu (.str z) (.int i)=none:=rfl;have e2:A7 (.str z) (.int i)=none:=rfl;have e3:DP (.str z) (.int i)=some (.str ⟨#[c]⟩,false):=by
  show(if z.length<=1000000 then(atI z.cps.toList i).bind (fun c=>some (D.str ⟨#[c]⟩,false)) else none)=_;rw[if_pos hz,h];rfl
 unfold bIx orD;rw[e1,e2];exact e3
theorem vn{a b:Str}(h:a.length+b.length<=1000000):cS (.str a) (.str b)=some (.str (a++b),false):=by
 have e1:rR (.str a) (.str b)=none:=rfl;have e2:rV (.str a) (.str b)=some (.str (a++b),false):=by
  show(if a.length+b.length<=1000000 then some (D.str (a++b),false) else none)=_;rw[if_pos h]
 unfold cS orD;rw[e1,e2]
theorem Bk{a:Str}{n:Int}(h:0<=n/\n<=1000/\a.length<=1000):oU (.str a) (.int n)=some (.str (Txt.mul a n),false):=by
 have e1:u8 (.str a) (.int n)=none:=rfl;have e2:yo (.str a) (.int n)=some (.str (Txt.mul a n),false):=by
  show(if 0<=n/\n<=1000/\a.length<=1000 then some (D.str (Txt.mul a n),false) else none)=_;rw[if_pos h]
 unfold oU orD;rw[e1,e2]
theorem gQ:∀xs:List Str,fY (xs.map D.str)=some xs
 | []=>rfl
 | x::r=>by
  show(fY (r.map D.str)).bind (fun xs=>some (x::xs))=_;rw[gQ r];rfl
theorem pM:∀xs:List Str,pG (xs.map D.str)=some (xs.map V.str)
 | []=>rfl
 | x::r=>by
  show(pG (r.map D.str)).bind (fun vs=>some (V.str x::vs))=_;rw[pM r];rfl
theorem pN:∀n:Nat,pH (List.replicate n (D.bl true))=some (List.replicate n true)
 | 0=>rfl
 | n+1=>by
  show(pH (List.replicate n (D.bl true))).bind (fun bs=>some (true::bs))=_;rw[pN n];rfl
theorem nN(n:Nat):A9 [.lst (List.replicate n (D.bl true))]=some (.bl true,false):=by
 show(pH (List.replicate n (D.bl true))).bind (fun bs=>some (D.bl (bs.all id),false))=_;rw[pN];show some (D.bl ((List.replicate n true).all id),false)=_;have:(List.replicate n true).all id=true:=by
  rw[Ql];intro b hb;exact List.eq_of_mem_replicate hb
 rw[this]
theorem CC{x:Str}{xs:List Str}:bIn (.str x) (.lst (xs.map D.str))=some (.bl (decide (x∈xs)),false):=by
 have e1:yp false (.str x) (.lst (xs.map D.str))=none:=rfl;have e2:A6 false (.str x) (.lst (xs.map D.str))=some (.bl (decide (x∈xs)),false):=by
  show(pG (xs.map D.str)).bind (fun ws=>some (D.bl (inV (.str x) ws),false))=_;rw[pM];show some (D.bl (inV (.str x) (xs.map V.str)),false)=_;have e:inV (.str x) (xs.map V.str)=decide (x∈xs):=by
   unfold inV;rw[List.any_map];induction xs with
   | nil=>rfl
   | cons y r ih =>
    rw[List.any_cons,ih rfl];show((y == x)||decide (x∈r))=_;by_cases e:y=x
    ·subst e;simp
    ·have e':¬ x=y:=fun z=>e z.symm;simp[e,e']
  rw[e]
 unfold bIn orD;rw[e1];exact e2
theorem yO{z:Str}{lo hi:Option Int}(h:z.length<=1000000):bSl (.str z) lo hi=some (.str (Txt.slice z lo hi),false):=by
 have e1:wN (.str z) lo hi=none:=rfl;have e2:mC (.str z) lo hi=none:=rfl;have e3:yw (.str z) lo hi=some (.str (Txt.slice z lo hi),false):=by
  show(if z.length<=1000000 then some (D.str (Txt.slice z lo hi),false) else none)=_;rw[if_pos h]
 unfold bSl orS;rw[e1,e2];exact e3
section
variable {st s s1 s2 s3:En}{r r1:Rs}{rs:List Rs}{d d0 d1:D}{ds:List D}{z:Rz}{fe fo:FE}{fa:FA}{fl fh:FO}
theorem se{T:String}{b:D->List D->Option Rz}(h1:fo st=some (r1,s1))(h2:cont s1 r1=some d0)(h3:DR T d0=true)(h4:fa s1=some (rs,s2))(h5:cont s2 r1=some d)(h6:dQ s2 rs=some ds)(h7:b d ds=some z)(hz:mk z=r:=by rfl):fBM T b fo fa st=some (r,s2):=by
 simp only[fBM,h1,h2,h3,h4,h5,h6,h7,hz,Qb,if_true]
theorem jk{j:Int}(h1:fa st=some (rs,s1))(h2:dQ s1 rs=some [.int j])(h3:-(2 ^ 62)<=j/\j<2 ^ 62):rO fa st=some (rng 0 j.toNat,s1):=by
 simp only[rO,h1,h2,Qb,DG];rw[if_pos h3]
theorem pO{r':Rs}{lo hi:Option Int}{b:D->Option Int->Option Int->Option Rz}(h1:fe st=some (r,s1))(h2:fl s1=some (lo,s2))(h3:fh s2=some (hi,s3))(h4:cont s3 r=some d)(h5:b d lo hi=some z)(hz:mk z=r':=by rfl):fSl b fe fl fh st=some (r',s3):=by
 simp only[fSl,h1,h2,h3,h4,h5,hz,Qb]
theorem kN{f:FT}{fa fb:FE}{a:Option (Rs×En)}(h:f st=some (true,s))(h2:fa s=a):fIf f fa fb st=a:=by simp only[fIf,h,Qb,if_true];exact h2
theorem lY{f:FT}{fa fb:FE}{a:Option (Rs×En)}(h:f st=some (false,s))(h2:fb s=a):fIf f fa fb st=a:=by simp only[fIf,h,Qb,Qe,if_false];exact h2
theorem vo(h1:fe st=some (r,s1))(h2:esc r s1=some (.lst ds,s2)):fIA fe st=some (ds,s2):=by
 have:fIL fe st=some (ds,s2):=by simp only[fIL,h1,h2,Qb,D.its]
 unfold fIA;rw[this]
theorem iJ(h1:fe st=some (r,s1))(h2:esc r s1=some (.tup ds,s2)):fIA fe st=some (ds,s2):=by
 have e1:fIL fe st=none:=by simp only[fIL,h1,h2,Qb,D.its,Option.bind_none]
 have e2:fIT fe st=some (ds,s2):=by simp only[fIT,h1,h2,Qb,D.itt]
 unfold fIA;rw[e1,e2]
theorem Bl(h1:fe st=some (r,s1))(h2:cont s1 r=some (.tup ds)):vk fe st=some (ds.reverse,s1):=by
 simp only[vk,h1,h2,Qb,D.itt]
theorem cj(h1:fa st=some (rs,s1))(h2:ef rs s1=some (ds,s2))(h3:ds.length<=1000000):dC fa st=some (.d (.tup ds),s2):=by
 simp only[dC,h1,h2,Qb];rw[if_pos h3]
end
theorem sh{fg:FG}{B:FS}(all:List D)(I:List D->En->Prop)(step:∀(gone:List D)(x:D)(rest:List D)(st:En),all=gone++x::rest->I gone st->∃s1 s2,fg x st=some s1/\B s1=some (.nx s2)/\I (gone++[x]) s2) :
  ∀(items gone:List D)(st:En),all=gone++items->I gone st->∃sf,ii fg B items st=some (.nx sf)/\I all sf
 | [],gone,st,ha,h=>⟨st,rfl,by rw[ha,Ve];exact h⟩
 | x::r,gone,st,ha,h=>by
  obtain⟨s1,s2,e1,e2,e3⟩:=step gone x r st ha h;obtain⟨sf,e4,e5⟩:=sh all I step r (gone++[x]) s2 (by rw[Vd];exact ha) e3
  refine⟨sf,?_,e5⟩;simp only[ii,e1,e2,Qb];exact e4
end VF
namespace VF
open PySem L2
inductive Pl:Nat->D->Prop where
 | non (n:Nat):Pl (n+1) .non
 | int (n:Nat) (i:Int):Pl (n+1) (.int i)
 | str (n:Nat) (x:Str):Pl (n+1) (.str x)
 | tup {n:Nat} {ds:List D}:(∀d∈ds,Pl n d)->Pl (n+1) (.tup ds)
 | lst {n:Nat} {ds:List D}:(∀d∈ds,Pl n d)->Pl (n+1) (.lst ds)
inductive RH(h:Heap):Value->D->Prop where
 | non:RH h .none .non
 | int (i:Int) (t:Tok):RH h (.int i t) (.int i)
 | str (x:Str) (t:Tok):RH h (.str x t) (.str x)
 | tup {a:Addr} {its:List Value} {ds:List D}:h.IsTuple a its.toArray->its.length=ds.length->(∀(i:Nat) u d,its[i]?=some u->ds[i]?=some d->RH h u d)->RH h (.ref a) (.tup ds)
 | lst {a:Addr} {its:List Value} {ds:List D}:h.IsList a its.toArray->its.length=ds.length->(∀(i:Nat) u d,its[i]?=some u->ds[i]?=some d->RH h u d)->RH h (.ref a) (.lst ds)
section
variable {X:Cx}{K:PySem.W.Frag}{Y:AS}{H:Hp}{s:Shared}{pins:List (Addr×Obj)}{σ:St}
theorem Pl.up{n:Nat}{d:D}(h:Pl n d):Pl (n+1) d:=by
 induction h with
 | non n=>exact .non _
 | int n i=>exact .int _ i
 | str n x=>exact .str _ x
 | tup _ ih=>exact .tup ih
 | lst _ ih=>exact .lst ih
theorem dm:∀{vs:List V}{us:List Value},Vals vs us->∀(i:Nat) u,us[i]?=some u->∃v,vs[i]?=some v/\RelV v u
 | _,_,.nil,i,u,h=>by simp at h
 | v::_,w::_,.cons r rs,0,u,h=>by
  have e:w=u:=by simpa using h
  exact⟨v,rfl,e ▸ r⟩
 | _::_,_::_,.cons r rs,i+1,u,h=>by
  obtain⟨v,h1,h2⟩:=dm rs i u (by simpa using h)
  exact⟨v,by simpa using h1,h2⟩
theorem DA.rh{n:Nat}{v:V}{d:D}(h:DA K Y H v d)(p:Pl n d)(I:Inv X pins σ H s)(hK:X.K=K):∀{u:Value},RelV v u->RH s.heap u d:=by
 induction h generalizing n with
 | non=>intro u r;cases r;exact .non
 | bl b=>cases p
 | int i=>intro u r;obtain⟨t,rfl⟩:=r;exact .int i t
 | str x=>intro u r;obtain⟨t,rfl⟩:=r;exact .str x t
 | ty n=>cases p
 | fl _ _ _ _=>cases p
 | dk _ _ _ _ _=>cases p
 | dt _ _ _ _ _ _=>cases p
 | @tup a vs ds h1 h2 h3 ih =>
  intro u r;cases r;cases p with
  | tup p =>
   obtain⟨its,r,t,_⟩:=I.tuple (hK ▸ h1.sq);refine .tup t (r.length.symm.trans h2) fun i u d e1 e2=>?_;obtain⟨v,e3,rv⟩:=dm r i u e1;exact ih i v d e3 e2 (p d (Wa e2)) rv
 | @lst a vs ds h0 h1 h2 h3 ih =>
  intro u r;cases r;cases p with
  | lst p =>
   obtain⟨its,r,t,_⟩:=I.list (show SqL X.K H a vs from .inl (.inl h1));refine .lst t.isList (r.length.symm.trans h2) fun i u d e1 e2=>?_;obtain⟨v,e3,rv⟩:=dm r i u e1;exact ih i v d e3 e2 (p d (Wa e2)) rv
theorem BA.rh{n:Nat}{v:V}{d:D}(h:BA K Y H v d)(p:Pl n d)(I:Inv X pins σ H s)(hK:X.K=K){u:Value}(ru:RelV v u):RH s.heap u d:=by
 cases p with
 | non=>cases (show v=.non from h);cases ru;exact .non
 | int _ i=>cases (show v=.int i from h);obtain⟨t,rfl⟩:=ru;exact .int i t
 | str _ x=>cases (show v=.str x from h);obtain⟨t,rfl⟩:=ru;exact .str x t
 | tup p =>
  obtain⟨a,vs,rfl,h1,el⟩:=h;cases ru;obtain⟨its,r,t,_⟩:=I.tuple (hK ▸ h1.sq);refine .tup t (r.length.symm.trans el.1) fun i u d e1 e2=>?_;obtain⟨v,e3,rv⟩:=dm r i u e1;exact(el.2 i v d e3 e2).rh (p d (Wa e2)) I hK rv
 | lst p =>
  obtain⟨a,vs,rfl,h1,el⟩:=h;cases ru;obtain⟨its,r,t,_⟩:=I.list (show SqL X.K H a vs from .inl (.inl h1));refine .lst t.isList (r.length.symm.trans el.1) fun i u d e1 e2=>?_;obtain⟨v,e3,rv⟩:=dm r i u e1;exact(el.2 i v d e3 e2).rh (p d (Wa e2)) I hK rv
theorem wV{h:Heap}{a:Addr}{x y:Array Value}(h1:h.IsTuple a x)(h2:h.IsTuple a y):x=y:=by
 obtain⟨o,e1,_,n,d1⟩:=h1;obtain⟨o',e2,_,n',d2⟩:=h2;rw[e1]at e2;cases e2;rw[d1]at d2;cases d2;rfl
theorem ue{h:Heap}{a:Addr}{x y:Array Value}(h1:h.IsList a x)(h2:h.IsList a y):x=y:=by
 obtain⟨o,e1,_,n,d1⟩:=h1;obtain⟨o',e2,_,n',d2⟩:=h2;rw[e1]at e2;cases e2;rw[d1]at d2;cases d2;rfl
theorem si{h:Heap}{a:Addr}{x y:Array Value}(h1:h.IsList a x)(h2:h.IsTuple a y):False:=by
 obtain⟨o,e1,c1,_⟩:=h1;obtain⟨o',e2,c2,_⟩:=h2;rw[e1]at e2;cases e2;rw[c1]at c2;injection c2 with c2;exact absurd c2 (by decide)
theorem RH.inj{h:Heap}{u:Value}{d:D}(r:RH h u d):∀{d':D},RH h u d'->d=d':=by
 induction r with
 | non=>intro d' r';cases r';rfl
 | int i t=>intro d' r';cases r';rfl
 | str x t=>intro d' r';cases r';rfl
 | @tup a its ds t hl _ ih =>
  intro d' r';cases r' with
  | @tup _ its' ds' t' hl' f =>
   have e:its=its':=by simpa using wV t t'
   subst e;have:ds=ds':=by
    refine List.ext_getElem (hl.symm.trans hl') fun i h1 h2=>?_;exact ih i its[i] ds[i] (Za (by lia)) (Za h1) (f i its[i] ds'[i] (Za (by lia)) (Za h2))
   rw[this]
  | lst t' _ _=>exact(si t' t).elim
 | @lst a its ds t hl _ ih =>
  intro d' r';cases r' with
  | @lst _ its' ds' t' hl' f =>
   have e:its=its':=by simpa using ue t t'
   subst e;have:ds=ds':=by
    refine List.ext_getElem (hl.symm.trans hl') fun i h1 h2=>?_;exact ih i its[i] ds[i] (Za (by lia)) (Za h1) (f i its[i] ds'[i] (Za (by lia)) (Za h2))
   rw[this]
  | tup t' _ _=>exact(si t t').elim
open Classical in
theorem yP{xs ys:List D}(h:xs.length=ys.length):((List.range xs.length).all fun j=>decide (xs[j]?=ys[j]?))=decide (xs=ys):=by
 rw[Qf,Ql,decide_eq_true_eq];constructor
 ·intro e;refine List.ext_getElem? fun j=>?_;by_cases hj:j<xs.length
  ·exact of_decide_eq_true (e j (Zm.mpr hj))
  ·rw[Wn (by lia),Wn (by lia)]
 ·rintro rfl j _;exact decide_eq_true rfl
open Classical in
theorem eq3{s:Shared}{d1 d2:D}{u1 u2:Value}{A:Around}(h:¬ d1=d2)(a:SeqAt.EqAt A s u1 u2 false)(b:SeqAt.RcAt A s u1 u2 false)(c:SeqAt.RcNeAt A s u1 u2 true) :
  SeqAt.EqAt A s u1 u2 (decide (d1=d2))/\SeqAt.RcAt A s u1 u2 (decide (d1=d2))/\SeqAt.RcNeAt A s u1 u2 (!decide (d1=d2)):=by
 rw[decide_eq_false h];exact⟨a,b,c⟩
open Classical in
theorem it3{n:Nat}{s:Shared}{A:Around}{its its':List Value}{ds ds':List D}(hl:its.length=ds.length)(hl':its'.length=ds'.length)(f:∀(j:Nat) u d,its[j]?=some u->ds[j]?=some d->RH s.heap u d)(f':∀(j:Nat) u d,its'[j]?=some u->ds'[j]?=some d->RH s.heap u d)(p1:∀d∈ds,Pl n d)(p2:∀d∈ds',Pl n d)
  (ih:∀{d1 d2:D}{u1 u2:Value},Pl n d1->Pl n d2->RH s.heap u1 d1->RH s.heap u2 d2->SeqAt.EqAt A s u1 u2 (decide (d1=d2)))(j:Nat)(h1:j<its.toArray.size)(h2:j<its'.toArray.size):SeqAt.EqAt A s its.toArray[j] its'.toArray[j] (decide (ds[j]?=ds'[j]?)):=by
 have h1':j<its.length:=by simpa using h1
 have h2':j<its'.length:=by simpa using h2
 have e1:ds[j]?=some ds[j]:=Za (hl ▸ h1');have e2:ds'[j]?=some ds'[j]:=Za (hl' ▸ h2');have z:=ih (p1 _ (Wa e1)) (p2 _ (Wa e2)) (f j its[j] _ (Za h1') e1) (f' j its'[j] _ (Za h2') e2);have e:decide (ds[j]?=ds'[j]?)=decide (ds[j]=ds'[j]):=by rw[e1,e2,Qf];simp
 rw[e];exact z
open Classical in
theorem RH.eqAt:∀(n:Nat){s:Shared}{d1 d2:D}{u1 u2:Value}{A:Around},Pl n d1->Pl n d2->RH s.heap u1 d1->RH s.heap u2 d2->A.units+n<cLine ->
  SeqAt.EqAt A s u1 u2 (decide (d1=d2))/\SeqAt.RcAt A s u1 u2 (decide (d1=d2))/\SeqAt.RcNeAt A s u1 u2 (!decide (d1=d2)):=by
 intro n;induction n with
 | zero=>intro s d1 d2 u1 u2 A p;cases p
 | succ n ih =>
  intro s d1 d2 u1 u2 A p1 p2 r1 r2 hu;have hu':A.units<cLine:=by lia
  cases r1 with
  | non =>
   cases r2 with
   | non=>rw[decide_eq_true rfl];exact⟨SeqAt.EqAt.same _,SeqAt.RcAt.none_none,SeqAt.RcNeAt.none_none⟩
   | int i t=>exact eq3 (by intro z;cases z) (SeqAt.EqAt.none_int _ _) (SeqAt.RcAt.none_int _ _) (SeqAt.RcNeAt.none_int _ _)
   | str x t=>exact eq3 (by intro z;cases z) (SeqAt.EqAt.none_str _ _) (SeqAt.RcAt.none_str _ _) (SeqAt.RcNeAt.none_str _ _)
   | tup t _ _=>exact eq3 (by intro z;cases z) (SeqAt.EqAt.none_tuple t hu') (SeqAt.RcAt.none_tuple t hu') (SeqAt.RcNeAt.none_tuple t hu')
   | lst t _ _=>exact eq3 (by intro z;cases z) (SeqAt.EqAt.none_list t hu') (SeqAt.RcAt.none_list t hu') (SeqAt.RcNeAt.none_list t hu')
  | int i t =>
   cases r2 with
   | non=>exact eq3 (by intro z;cases z) (SeqAt.EqAt.int_none _ _) (SeqAt.RcAt.int_none _ _) (SeqAt.RcNeAt.int_none _ _)
   | int j t' =>
    have e:decide (D.int i=D.int j)=(i == j):=by rw[Qf];simp
    rw[e];exact⟨SeqAt.EqAt.int_int _ _ _ _,SeqAt.RcAt.int_int _ _ _ _,SeqAt.RcNeAt.int_int _ _ _ _⟩
   | str x t'=>exact eq3 (by intro z;cases z) (SeqAt.EqAt.int_str _ _ _ _) (SeqAt.RcAt.int_str _ _ _ _) (SeqAt.RcNeAt.int_str _ _ _ _)
   | tup t' _ _=>exact eq3 (by intro z;cases z) (SeqAt.EqAt.int_tuple _ _ t' hu') (SeqAt.RcAt.int_tuple _ _ t' hu') (SeqAt.RcNeAt.int_tuple _ _ t' hu')
   | lst t' _ _=>exact eq3 (by intro z;cases z) (SeqAt.EqAt.int_list _ _ t' hu') (SeqAt.RcAt.int_list _ _ t' hu') (SeqAt.RcNeAt.int_list _ _ t' hu')
  | str x t =>
   cases r2 with
   | non=>exact eq3 (by intro z;cases z) (SeqAt.EqAt.str_none _ _) (SeqAt.RcAt.str_none _ _) (SeqAt.RcNeAt.str_none _ _)
   | int j t'=>exact eq3 (by intro z;cases z) (SeqAt.EqAt.str_int _ _ _ _) (SeqAt.RcAt.str_int _ _ _ _) (SeqAt.RcNeAt.str_int _ _ _ _)
   | str y t' =>
    have e:decide (D.str x=D.str y)=(x == y):=by rw[Qf];simp
    rw[e];exact⟨SeqAt.EqAt.str_str _ _ _ _,SeqAt.RcAt.str_str _ _ _ _,SeqAt.RcNeAt.str_str _ _ _ _⟩
   | tup t' _ _=>exact eq3 (by intro z;cases z) (SeqAt.EqAt.str_tuple _ _ t' hu') (SeqAt.RcAt.str_tuple _ _ t' hu') (SeqAt.RcNeAt.str_tuple _ _ t' hu')
   | lst t' _ _=>exact eq3 (by intro z;cases z) (SeqAt.EqAt.str_list _ _ t' hu') (SeqAt.RcAt.str_list _ _ t' hu') (SeqAt.RcNeAt.str_list _ _ t' hu')
  | @tup a its ds t hl f =>
   cases r2 with
   | non=>exact eq3 (by intro z;cases z) (SeqAt.EqAt.tuple_none t hu') (SeqAt.RcAt.tuple_none t hu') (SeqAt.RcNeAt.tuple_none t hu')
   | int j t'=>exact eq3 (by intro z;cases z) (SeqAt.EqAt.tuple_int _ _ t hu') (SeqAt.RcAt.tuple_int _ _ t hu') (SeqAt.RcNeAt.tuple_int _ _ t hu')
   | str y t'=>exact eq3 (by intro z;cases z) (SeqAt.EqAt.tuple_str _ _ t hu') (SeqAt.RcAt.tuple_str _ _ t hu') (SeqAt.RcNeAt.tuple_str _ _ t hu')
   | lst t' _ _=>exact eq3 (by intro z;cases z) (SeqAt.EqAt.tuple_list t t' hu') (SeqAt.RcAt.tuple_list t t' hu') (SeqAt.RcNeAt.tuple_list t t' hu')
   | @tup b its' ds' t' hl' f' =>
    cases p1 with
    | tup p1 =>
    cases p2 with
    | tup p2 =>
    have it:=it3 (A:=A.in1) hl hl' f f' p1 p2 fun q1 q2 q3 q4=>(ih (A:=A.in1) q1 q2 q3 q4 (by show A.units+1+n<cLine;lia)).1
    have e:decide (D.tup ds=D.tup ds')=((List.range (min its.toArray.size its'.toArray.size)).all (fun j=>decide (ds[j]?=ds'[j]?))&&its.toArray.size == its'.toArray.size):=by
     simp only[Vb];by_cases hh:its.length=its'.length
     ·rw[← hh,Nat.min_self,hl,yP (by lia),Qf];simp
     ·have:ds≠ds':=fun z=>hh (by rw[hl,hl',z])
      rw[Qf];simp[hh,this]
    have rc:SeqAt.RcAt A s (.ref a) (.ref b) (decide (D.tup ds=D.tup ds')):=by
     rw[e];exact SeqAt.RcAt.tuples (A:=A) (e:=fun j=>decide (ds[j]?=ds'[j]?)) t t' hu' it
    have rn:SeqAt.RcNeAt A s (.ref a) (.ref b) (!decide (D.tup ds=D.tup ds')):=by
     rw[e];exact SeqAt.RcNeAt.tuples (A:=A) (e:=fun j=>decide (ds[j]?=ds'[j]?)) t t' hu' it
    refine⟨?_,rc,rn⟩;by_cases hab:a=b
    ·subst hab;have:=RH.inj (RH.tup t hl f) (RH.tup t' hl' f');rw[this,decide_eq_true rfl];exact SeqAt.EqAt.same _
    ·exact SeqAt.EqAt.of_refs hab rc
  | @lst a its ds t hl f =>
   cases r2 with
   | non=>exact eq3 (by intro z;cases z) (SeqAt.EqAt.list_none t hu') (SeqAt.RcAt.list_none t hu') (SeqAt.RcNeAt.list_none t hu')
   | int j t'=>exact eq3 (by intro z;cases z) (SeqAt.EqAt.list_int _ _ t hu') (SeqAt.RcAt.list_int _ _ t hu') (SeqAt.RcNeAt.list_int _ _ t hu')
   | str y t'=>exact eq3 (by intro z;cases z) (SeqAt.EqAt.list_str _ _ t hu') (SeqAt.RcAt.list_str _ _ t hu') (SeqAt.RcNeAt.list_str _ _ t hu')
   | tup t' _ _=>exact eq3 (by intro z;cases z) (SeqAt.EqAt.list_tuple t t' hu') (SeqAt.RcAt.list_tuple t t' hu') (SeqAt.RcNeAt.list_tuple t t' hu')
   | @lst b its' ds' t' hl' f' =>
    cases p1 with
    | lst p1 =>
    cases p2 with
    | lst p2 =>
    have it:=it3 (A:=A.in1) hl hl' f f' p1 p2 fun q1 q2 q3 q4=>(ih (A:=A.in1) q1 q2 q3 q4 (by show A.units+1+n<cLine;lia)).1
    have both:SeqAt.RcAt A s (.ref a) (.ref b) (decide (D.lst ds=D.lst ds'))/\SeqAt.RcNeAt A s (.ref a) (.ref b) (!decide (D.lst ds=D.lst ds')):=by
     by_cases hh:its.length=its'.length
     ·have e:decide (D.lst ds=D.lst ds')=(List.range its.toArray.size).all fun j=>decide (ds[j]?=ds'[j]?):=by
       simp only[Vb];rw[hl,yP (by lia),Qf];simp
      rw[e];exact⟨SeqAt.RcAt.lists (A:=A) (e:=fun j=>decide (ds[j]?=ds'[j]?)) t t' (by simpa using hh) hu' it,SeqAt.RcNeAt.lists (A:=A) (e:=fun j=>decide (ds[j]?=ds'[j]?)) t t' (by simpa using hh) hu' it⟩
     ·have:ds≠ds':=fun z=>hh (by rw[hl,hl',z])
      rw[decide_eq_false (by intro z;cases z;exact this rfl)]
      exact⟨SeqAt.RcAt.lists_lengths t t' (by simpa using hh) hu',SeqAt.RcNeAt.lists_lengths t t' (by simpa using hh) hu'⟩
    obtain⟨rc,rn⟩:=both;refine⟨?_,rc,rn⟩;by_cases hab:a=b
    ·subst hab;have:=RH.inj (RH.lst t hl f) (RH.lst t' hl' f');rw[this,decide_eq_true rfl];exact SeqAt.EqAt.same _
    ·exact SeqAt.EqAt.of_refs hab rc
open Classical in
noncomputable def qB(neg:Bool):D->D->Option Rz:=fun a b=>if Pl 40 a/\Pl 40 b then some (.bl (if neg then !decide (a=b) else decide (a=b)),false) else none
open Classical in
noncomputable def yQ(K:PySem.W.Frag)(neg:Bool):R2:=fun x y H Q=>∃(Y:AS)(a b:D),BA K Y H x a/\BA K Y H y b/\Pl 40 a/\Pl 40 b/\Q (.bl (if neg then !decide (a=b) else decide (a=b))) H
theorem yR(neg:Bool):RdOp K (yQ K neg) (qB neg):=by
 intro Y H x y d1 d2 z Q lv b1 b2 e q;unfold qB at e;obtain⟨c,e⟩:=aR e;cases e;exact⟨Y,d1,d2,b1,b2,c.1,c.2,q _ H (Same.refl H) (.bl _)⟩
theorem D4(h:X.K=K)(hu:X.A.units+64<cLine):OpR X (compareOp .Eq) (yQ K false):=by
 intro pins s σ H x y v u Q I rx ry ⟨Y,a,b,b1,b2,p1,p2,q⟩;exact(RH.eqAt 40 (A:=X.A) p1 p2 (b1.rh p1 I h rx) (b2.rh p2 I h ry) (by lia)).2.1 _ _ _ _ ⟨.bl _,H,I,rfl,q⟩
theorem D5(h:X.K=K)(hu:X.A.units+64<cLine):OpR X (compareOp .NotEq) (yQ K true):=by
 intro pins s σ H x y v u Q I rx ry ⟨Y,a,b,b1,b2,p1,p2,q⟩;exact(RH.eqAt 40 (A:=X.A) p1 p2 (b1.rh p1 I h rx) (b2.rh p2 I h ry) (by lia)).2.2 _ _ _ _ ⟨.bl _,H,I,rfl,q⟩
noncomputable def nO:=orD bEq (qB false)
noncomputable def jz:=orD bNe (qB true)
noncomputable def FW(K:PySem.W.Frag):R2:=fun x y H Q=>rEq x y H Q∨yQ K false x y H Q
noncomputable def FX(K:PySem.W.Frag):R2:=fun x y H Q=>DV K x y H Q∨yQ K true x y H Q
theorem nP(h:X.K=K)(hu:X.A.units+64<cLine):OpR X (compareOp .Eq) (FW K):=(cK h hu).or (D4 h hu)
theorem nQ:RdOp K (FW K) nO:=ro_eqA.or (yR false)
theorem nR(h:X.K=K)(hu:X.A.units+64<cLine):OpR X (compareOp .NotEq) (FX K):=(fZ h hu).or (D5 h hu)
theorem nS:RdOp K (FX K) jz:=ro_neA.or (yR true)
end
end VF
namespace VF
open PySem L2 PySem.Spec
section
variable {X:Cx}{a b e:Expr}{ta te:TE}
theorem qC{K:PySem.W.Frag}{es:List Expr}{k:Nat}{t:TGs}{n:Nat}{pos:Pos}(hK:X.K=K)(hc:X.calm=true)(h:PGs X es t)
  (hn:(assignEach es X.env).length=n:=by rfl)(hst:(assignEach es X.env).findIdx? (·.1)=none:=by rfl):PG X (.Tuple es k pos) (C6 K n t):=hK ▸ C7 hc h hn hst
end
end VF
namespace VF
open PySem L2 PySem.Spec
section
variable {X:Cx}{K:PySem.W.Frag}
noncomputable def yS(K:PySem.W.Frag):R2:=fun x y H Q=>∃a b ys,x=.ref a/\y=.ref b/\SqT K H a []/\SqT K H b ys/\Q (.ref b) H
theorem Bm(h:X.K=K):OpR X (binaryOp .Add) (yS K):=by
 intro pins s σ H x y v u Q I rx ry hh;obtain⟨a,b,ys,rfl,rfl,ha,hb,q⟩:=hh;cases rx;cases ry;subst h;obtain⟨its,r1,p1,_⟩:=I.tuple ha;obtain⟨its2,r2,p2,_⟩:=I.tuple hb;cases r1;obtain⟨⟨cls,dd,data,sl⟩,ho,hc,n,hd⟩:=id p1;obtain⟨⟨cls2,dd2,data2,sl2⟩,ho2,hc2,n2,hd2⟩:=id p2;simp only at hc hd hc2 hd2;subst hc hd hc2 hd2;exact concat_meets ⟨_,ho,rfl⟩ ⟨_,ho2,rfl⟩ noFill_tuple_add seq_tuple_add PySem.F.slot_tuple_add PySem.F.entry_tuple_add (PySem.F.args_tuple_add_2 _ _)
   (PyProof.Rows.tuple_addW0 a b _ _ n n2 dd dd2 sl sl2 rfl) ⟨ho,ho2,.ref b,H,I,rfl,q⟩
noncomputable def CD:D->D->Option Rz
 | .tup [],.tup b=>some (.tup b,false)
 | _,_=>none
theorem Bo:RdOp K (yS K) CD:=by
 intro Y H x y d1 d2 z Q lv b1 b2 e q;cases d1 with
 | tup a =>
  cases a with
  | cons a0 a=>cases e
  | nil =>
   cases d2 with
   | tup b =>
    cases e;obtain⟨p,xs,rfl,hp,el⟩:=b1;obtain⟨p2,ys,rfl,hp2,el2⟩:=b2;obtain rfl:=el.unnil;exact⟨p,p2,ys,rfl,rfl,hp.sq,hp2.sq,q _ H (Same.refl H) (.tup hp2 el2.1 el2.2)⟩
   | _=>cases e
 | _=>cases e
noncomputable def pP:=orD cS CD
noncomputable def CF(K:PySem.W.Frag):R2:=fun x y H Q=>yE K x y H Q∨yS K x y H Q
theorem Bp(h:X.K=K):OpR X (binaryOp .Add) (CF K):=(bQ h).or (Bm h)
theorem Bq:RdOp K (CF K) pP:=ro_addA.or Bo
noncomputable def D6(K:PySem.W.Frag):V->Option Int->Option Int->Hp->VK->Prop:=fun x lo hi H Q=>∃a xs,x=.ref a/\SqT K H a xs/\(HT.sIx xs.length 0 lo=0/\HT.sIx xs.length xs.length hi=xs.length)/\Q (.ref a) H
end
end VF
namespace HT
open PySem PyProof.Rows
section
variable {prog:Program}{w:World}{A:Around}{E:Value->Shared->Prop}{s:Shared}
theorem getItem_tuple_all{t sl:Addr}{items:Array Value}{vl vu:Value}{lo hi:Option Int}{Q:Value->Shared->Prop}(ht:IsTup s.heap t items)(hs:s.heap.IsSliceOf sl vl vu .none)(pl:IsPart vl lo)(pu:IsPart vu hi)
  (hw:sIx items.size 0 lo=0/\sIx items.size items.size hi=items.size)(h:Q (.ref t) s):wpAny (model prog w) A (getItem (.ref t) (.ref sl)) Q E s:=by
 obtain⟨os,hos,hcs,hds⟩:=id hs;have hTs:s.TypeIs (.ref sl) "slice":=⟨os,hos,hcs⟩;unfold getItem
 try with_reducible refine wpAny_holding ?_
 first|refine wpAny_bind (wpAny_pure ?_)|skip
 refine wpAny_bind (wpAny_sequenceKey ht.typeIs (by decide) ?_)
 refine wpAny_bind (wpAny_callSpecial?_slot (name:=Str.ofString "__getitem__") ht.typeIs PyProof.Rows.slot_tuple_getitem
  (wpAny_call_entry PyProof.Rows.slot_tuple_getitem ht.typeIs entry_tuple_getitem ?_ (args_tuple_getitem _ _)))
 show wpAny _ _ (Builtin.Tuple.tupleItemsOf (.ref t) >>= _) _ _ s;refine wpAny_bind (tupleItemsOf_ ht ?_);refine wpAny_bind (wpAny_typeOf hTs ?_);rw[if_pos (by decide)]
 refine wpAny_bind (gp hs pl pu ?_);have hyes:(((sIx items.size 0 lo:Nat):Int) == 0&&(1:Int) == 1&&(sIx items.size items.size hi-sIx items.size 0 lo) == items.size)=true:=by
  rw[hw.1,hw.2];simp
 show wpAny _ _ (if (((sIx items.size 0 lo:Nat):Int) == 0&&(1:Int) == 1&&(sIx items.size items.size hi-sIx items.size 0 lo) == items.size)=true then _ else _) _ _ s;rw[if_pos hyes];unfold Builtin.Tuple.tupleIsExact;refine wpAny_bind (wpAny_bind (wpAny_typeOf ht.typeIs (wpAny_pure ?_)));rw[if_pos (by decide)]
 exact wpAny_bind (wpAny_rule (wpAny_pure ⟨_,rfl,wpAny_pure h⟩))
end
end HT
namespace VF
open PySem L2
section
variable {X:Cx}{K:PySem.W.Frag}
theorem yT(h:X.K=K):SlR X (D6 K):=by
 intro pins s σ H x v vl vu lo hi sl Q I rx hs pl pu hh;obtain⟨a,xs,rfl,hx,hw,q⟩:=hh;cases rx;subst h;obtain⟨its,r,ht,hz⟩:=I.tuple hx;have hlen:its.toArray.size=xs.length:=by rw[Vb];exact r.length.symm
 refine⟨"tuple",_,PyProof.Rows.slot_tuple_getitem.lookup,ht.typeIs,?_⟩;exact HT.getItem_tuple_all ht hs pl pu (by rw[hlen];exact hw) ⟨.ref a,H,I,rfl,q⟩
noncomputable def Br:D->Option Int->Option Int->Option Rz
 | .tup ds,lo,hi=>if HT.sIx ds.length 0 lo=0/\HT.sIx ds.length ds.length hi=ds.length then some (.tup ds,false) else none
 | _,_,_=>none
theorem FY:RdSl K (D6 K) Br:=by
 intro Y H x lo hi d1 z Q lv b1 e q;cases d1 with
 | tup a =>
  obtain⟨c,e⟩:=aR e;cases e;obtain⟨p,xs,rfl,hp,el⟩:=b1;exact⟨p,xs,rfl,hp.sq,by rw[el.1];exact c,q _ H (Same.refl H) (.tup hp el.1 el.2)⟩
 | _=>cases e
noncomputable def sn:=orS bSl Br
noncomputable def FZ(K:PySem.W.Frag):V->Option Int->Option Int->Hp->VK->Prop:=fun x lo hi H Q=>DW K x lo hi H Q∨D6 K x lo hi H Q
theorem vp(h:X.K=K):SlR X (FZ K):=SlR.or (nH h) (yT h)
theorem su:RdSl K (FZ K) sn:=RdSl.or kM FY
theorem uf(ds:List D)(lo hi:Option Int):sn (.tup ds) lo hi=some (.tup (cutD ds lo hi),false):=by
 have e1:wN (.tup ds) lo hi=none:=rfl;have e3:yw (.tup ds) lo hi=none:=rfl;by_cases c:HT.sIx ds.length 0 lo=0/\HT.sIx ds.length ds.length hi=ds.length
 ·have e2:mC (.tup ds) lo hi=none:=by simp only[mC,if_pos c]
  have e4:Br (.tup ds) lo hi=some (.tup ds,false):=by simp only[Br,if_pos c]
  have e5:cutD ds lo hi=ds:=by
   unfold cutD;rw[c.1,c.2];simp
  unfold sn bSl orS;rw[e1,e2,e3,e4,e5]
 ·have e2:mC (.tup ds) lo hi=some (.tup (cutD ds lo hi),false):=by simp only[mC,if_neg c]
  unfold sn bSl orS;rw[e1,e2]
theorem Bs{a b:List D}(h:a.length+b.length<=100000):pP (.tup a) (.tup b)=some (.tup (a++b),false):=by
 have e1:rR (.tup a) (.tup b)=none:=rfl;have e2:rV (.tup a) (.tup b)=none:=rfl;have e3:yn (.tup a) (.tup b)=none:=rfl;cases a with
 | nil =>
  have e4:pF (.tup []) (.tup b)=none:=rfl;unfold pP cS orD;rw[e1,e2,e3,e4];rfl
 | cons x a =>
  have e4:pF (.tup (x::a)) (.tup b)=some (.tup (x::a++b),false):=by
   simp only[Qd]at h;cases b with
   | nil=>simp only[pF,Ve];rw[if_pos (by lia)]
   | cons y b =>
    simp only[Qd]at h;simp only[pF];rw[if_pos (by lia)]
  unfold pP cS orD;rw[e1,e2,e3,e4]
theorem D7{ds:List D}{j:Nat}(h:j<=ds.length):cutD ds none (some (j:Int))=ds.take j:=by
 unfold cutD;rw[HT.sIx_none,HT.sIx_nat,Nat.min_eq_left h];simp
theorem sv{ds:List D}{i:Nat}(h:i<=ds.length):cutD ds (some (i:Int)) none=ds.drop i:=by
 unfold cutD;rw[HT.sIx_none,HT.sIx_nat,Nat.min_eq_left h,Vl];rw[Wj];lia
end
end VF
namespace VF
open PySem L2
section
variable {α:Type}{fg:FG}{B:FS}{fc:FT}{fe:FE}{k:Nat}
theorem cZ(f:α->D)(all:List α)(I:List α->En->Prop)(step:∀(gone:List α)(x:α)(rest:List α)(st:En),all=gone++x::rest->I gone st->∃s1 s2,fg (f x) st=some s1/\B s1=some (.nx s2)/\I (gone++[x]) s2) :
  ∀(items gone:List α)(st:En),all=gone++items->I gone st->∃sf,ii fg B (items.map f) st=some (.nx sf)/\I all sf
 | [],gone,st,ha,h=>⟨st,rfl,by rw[ha,Ve];exact h⟩
 | x::r,gone,st,ha,h=>by
  obtain⟨s1,s2,e1,e2,e3⟩:=step gone x r st ha h;obtain⟨sf,e4,e5⟩:=cZ f all I step r (gone++[x]) s2 (by rw[Vd];exact ha) e3
  refine⟨sf,?_,e5⟩;simp only[Xf,ii,e1,e2,Qb];exact e4
theorem jS(f g:α->D)(p:α->Bool)(sb:En):∀(xs:List α),(∀x∈xs,∃s1 s2,fg (f x) sb=some s1/\fc s1=some (p x,s2)/\(p x=false->rst k s2=sb)/\(p x=true->∃y s3 s4,fe s2=some (y,s3)/\esc y s3=some (g x,s4)/\rst k s4=sb)) ->
  db fg fc fe k (xs.map f) sb=some ((xs.filter p).map g,sb)
 | [],_=>rfl
 | x::r,h=>by
  obtain⟨s1,s2,e1,e2,hf,ht⟩:=h x Zc;have ih:=jS f g p sb r fun y hy=>h y (Xb _ hy);cases hp:p x with
  | false =>
   rw[hp]at e2;simp only[Xf,db,e1,e2,Qb,Qe,if_false,hf hp,ih,List.filter_cons,hp]
  | true =>
   rw[hp]at e2;obtain⟨y,s3,s4,e3,e4,e5⟩:=ht hp;simp only[Xf,db,e1,e2,Qb,if_true,e3,e4,e5,ih,List.filter_cons,hp]
theorem cT(f g:α->D)(sb:En)(xs:List α)(h:∀x∈xs,∃s1 s2 y s3 s4,fg (f x) sb=some s1/\fc s1=some (true,s2)/\fe s2=some (y,s3)/\esc y s3=some (g x,s4)/\rst k s4=sb) :
  db fg fc fe k (xs.map f) sb=some (xs.map g,sb):=by
 have:=jS (fg:=fg) (fc:=fc) (fe:=fe) (k:=k) f g (fun _=>true) sb xs fun x hx=>by
  obtain⟨s1,s2,y,s3,s4,e1,e2,e3,e4,e5⟩:=h x hx;exact⟨s1,s2,e1,e2,fun z=>(Bool.noConfusion z),fun _=>⟨y,s3,s4,e3,e4,e5⟩⟩
 rw[this,List.filter_eq_self.mpr fun _ _=>rfl]
end
section
variable {st s1:En}{rs:List Rs}{fa:FA}
theorem CG{ok:D->Bool}{mm:D->List D->Option (D×D)}{i:Nat}{t:Sl}{x y x':D}{st3:En}(h0:st[i]?=some t)(h00:t.ow=some x)(hk:ok x=true)(h5:mm x []=some (y,x'))(h6:st.set i (t.put x')=st3:=by rfl):fM0 ok mm i st=some (.d y,st3):=by
 simp only[fM0,h0,h00,hk,h5,h6,Qb,if_true]
theorem Bt{xs ys:List D}(h:xs.length+ys.length<=1000000):mU (.lst xs) [.lst ys]=some (.non,.lst (xs++ys)):=by
 show(if xs.length+ys.length<=1000000 then some (D.non,D.lst (xs++ys)) else none)=_;rw[if_pos h]
end
end VF
namespace VF22
open PySem PySem.Spec PyProof.Rows L2 VF
noncomputable def ItN(t:Bool):String:=if t then "tuple_iterator" else "list_iterator"
noncomputable def SqN(t:Bool):String:=if t then "tuple" else "list"
noncomputable def Io(t:Bool)(h:Heap)(a l:Addr)(i:Nat):Prop:=∃o,h.get? a=some o/\o.cls=.type (ItN t)/\o.data=.fields #[.ref l,.int i 0]
noncomputable def So(t:Bool)(h:Heap)(l:Addr)(xs:Array Value):Prop:=∃o,h.get? l=some o/\o.cls=.type (SqN t)/\∃n,o.data=.seq xs n
variable {t t1 t2:Bool}{h h':Heap}
theorem Io.by(a:Io t h it l i)(k:∀o,h.get? it=some o->h'.get? it=some o):Io t h' it l i:=by
 obtain⟨o,e,r⟩:=a;exact⟨o,k o e,r⟩
theorem So.by(a:So t h l xs)(k:∀o,h.get? l=some o->h'.get? l=some o):So t h' l xs:=by
 obtain⟨o,e,r⟩:=a;exact⟨o,k o e,r⟩
section
variable {P:Program}{w:World}{A:Around}{E:Value->Shared->Prop}{s:Shared}
theorem yU{it l:Addr}{i:Nat}{xs:Array Value}{x:Value}{Q:Value->Shared->Prop}(a:Io t s.heap it l i)(b:So t s.heap l xs)(hx:xs[i]?=some x)
  (q:∀h1,Io t h1 it l (i+1)->Heap.SameBut it s.heap h1->Q x { s with heap:=h1 }):wpAny (model P w) A (Builtin.SmallTypes.nextOf (.ref it)) Q E s:=by
 cases t with
 | false=>exact wpAny_nextOf_list_item (i:=i) (l:=l) (items:=xs) a b hx q
 | true =>
  obtain⟨u,hu,cu,du⟩:=id a;obtain⟨v,hv,cv,nv,dv⟩:=b;have ty:s.heap.IsTupleIter it l i:=⟨u,hu,cu,du⟩;unfold Builtin.SmallTypes.nextOf;refine wpAny_bind (wpAny_callSpecial?_slot (name:=Str.ofString "__next__") ty.typeIs F.slot_tuple_iterator_next (wpAny_call_entry F.slot_tuple_iterator_next ty.typeIs F.entry_tuple_iterator_next ?_ (F.args_tuple_iterator_next_1 _)));show wpAny _ _ (field (.ref it) 0 >>= _) _ _ _;refine wpAny_bind (wpAny_field hu du (x:=.ref l) rfl ?_);show wpAny _ _ (if (Value.ref l == Value.none)=true then _ else _) _ _ _;rw[if_neg (show ¬ ((Value.ref l == .none)=true) from Yd)];show wpAny _ _ (field (.ref it) 1 >>= _) _ _ _;refine wpAny_bind (wpAny_field hu du (x:=.int i 0) rfl ?_);show wpAny _ _ (seqItems? (.ref l) >>= _) _ _ _;refine wpAny_bind (wpAny_seqItems hv dv ?_);simp only[hx,Int.toNat_natCast];refine wpAny_bind (wpAny_setField hu du (by simp) (wpAny_pure ⟨x,rfl,wpAny_pure (q _ ?_ (Heap.SameBut.update ..))⟩))
  refine⟨_,Heap.get?_update_self _ hu (Obj.isFreed_of_fields (Obj.data_mapFields du _)),(Obj.cls_mapFields ..).trans cu,?_⟩;rw[Obj.data_mapFields du];simp[rawInt]
theorem yV{it l:Addr}{i:Nat}{xs:Array Value}{Q:Value->Shared->Prop}(hh:A.handled=none)(a:Io t s.heap it l i)(b:So t s.heap l xs)(hx:xs[i]?=none)
  (q:∀h1 e,Heap.ExtBut it s.heap h1->(∃o,h1.get? e=some o/\o.cls=.type "StopIteration")->E (.ref e) { s with heap:=h1 }):wpAny (model P w) A (Builtin.SmallTypes.nextOf (.ref it)) Q E s:=by
 cases t with
 | false=>exact wpAny_nextOf_list_end (i:=i) (l:=l) (items:=xs) hh a b hx q
 | true =>
  obtain⟨u,hu,cu,du⟩:=id a;obtain⟨v,hv,cv,nv,dv⟩:=b;have ty:s.heap.IsTupleIter it l i:=⟨u,hu,cu,du⟩;unfold Builtin.SmallTypes.nextOf;refine wpAny_bind (wpAny_callSpecial?_slot (name:=Str.ofString "__next__") ty.typeIs F.slot_tuple_iterator_next (wpAny_call_entry F.slot_tuple_iterator_next ty.typeIs F.entry_tuple_iterator_next ?_ (F.args_tuple_iterator_next_1 _)));show wpAny _ _ (field (.ref it) 0 >>= _) _ _ _;refine wpAny_bind (wpAny_field hu du (x:=.ref l) rfl ?_);show wpAny _ _ (if (Value.ref l == Value.none)=true then _ else _) _ _ _;rw[if_neg (show ¬ ((Value.ref l == .none)=true) from Yd)];show wpAny _ _ (field (.ref it) 1 >>= _) _ _ _;refine wpAny_bind (wpAny_field hu du (x:=.int i 0) rfl ?_);show wpAny _ _ (seqItems? (.ref l) >>= _) _ _ _;refine wpAny_bind (wpAny_seqItems hv dv ?_);simp only[hx,Int.toNat_natCast];refine wpAny_bind (wpAny_rule (wpAny_bind (wpAny_setField hu du (by simp) ?_)))
  show wpAny _ _ (newExc (.type "StopIteration") [] >>= _) _ _ _;refine wpAny_bind ?_;simp only[newExc,newTuple];refine wpAny_bind (wpAny_newObj_type ?_ (by size_fits))
  refine wpAny_bind (m:=firstArgMember _ _) (wpAny_of_eq (a:=.none) (by first|rfl|(simp only[firstArgMember];rfl)) ?_)
  refine wpAny_newObj_type ?_ (by size_fits)
  simp only[raiseNew];refine wpAny_bind (wpAny_handled ?_)
  first|rw[show A.in1.handled=none from hh]|rw[hh]
  refine wpAny_bind (wpAny_pure (wpAny_throw ?_));exact q _ _ (((Heap.SameBut.update ..).extBut.push _).push _) ⟨_,Heap.get?_push_size _ rfl,rfl⟩
theorem F3{z T1 T2 i1 i2 l1 l2:Addr}{k:Nat}{xs ys:Array Value}{x y a b:Value}{Q:Option Value->Shared->Prop}(W:ZipApart z T1 T2 i1 i2 l1 l2)(hz:IsZip s.heap z T1 T2 .none)(p1:IsPair s.heap T1 (.ref i1) (.ref i2))(p2:IsPair s.heap T2 a b)
  (u1:Io t1 s.heap i1 l1 k)(u2:Io t2 s.heap i2 l2 k)(v1:So t1 s.heap l1 xs)(v2:So t2 s.heap l2 ys)(hx:xs[k]?=some x)(hy:ys[k]?=some y)
  (q:∀g,IsZip g z T1 T2 (rawInt s.heap.objs.size)->IsPair g T2 x y->Io t1 g i1 l1 (k+1)->Io t2 g i2 l2 (k+1)->IsPair g s.heap.objs.size x y ->
   (∀c o,c≠z->c≠T2->c≠i1->c≠i2->s.heap.get? c=some o->g.get? c=some o)->Q (some (.ref s.heap.objs.size)) { s with heap:=g }):wpAny (model P w) A (pyNext (.ref z)) Q E s:=by
 have ty:s.TypeIs (.ref z) "zip":=⟨_,hz,rfl⟩;unfold pyNext;refine wpAny_bind (wpAny_attempt (wpAny_callSpecial?_slot (name:=Str.ofString "__next__") ty F.slot_zip_next (wpAny_call_entry F.slot_zip_next ty F.entry_zip_next ?_ (F.args_zip_next_1 _))));show wpAny _ _ (field (.ref z) 2 >>= _) _ _ s;refine wpAny_bind (wpAny_field hz rfl (x:=.bool false) rfl ?_);show wpAny _ _ (field (.ref z) 3 >>= _) _ _ s;refine wpAny_bind (wpAny_field hz rfl (x:=.ref T1) rfl ?_);refine wpAny_bind (wpAny_seqItems p1 rfl ?_);show wpAny _ _ (Builtin.SmallTypes.ownedTupleIsFree (.ref z) >>= _) _ _ s;refine wpAny_bind ?_;unfold Builtin.SmallTypes.ownedTupleIsFree;refine wpAny_bind (wpAny_field hz rfl (x:=Value.none) rfl (wpAny_pure ?_));simp only[if_true];refine wpAny_bind (wpAny_rule ?_);refine wpAny_bind (wpAny_field hz rfl (x:=.ref T2) rfl ?_);refine wpAny_bind (wpAny_setField_rec hz (by simp) fun g1 z1 s1=>?_)
 replace z1:IsZip g1 z T1 T2 .ellipsis:=z1
 refine wpAny_bind ?_;simp only[List.forIn_cons,List.forIn_nil,List.zipIdx_cons,List.zipIdx_nil];refine wpAny_bind (wpAny_bind (wpAny_onRaise ?_));show wpAny _ _ (Builtin.SmallTypes.nextOf (.ref i1) >>= _) _ _ { s with heap:=g1 };refine wpAny_bind (yU (s:={ s with heap:=g1 }) (u1.by fun o e=>s1.extBut _ o W.i1z e) (v1.by fun o e=>s1.extBut _ o W.l1z e) hx fun g2 n1 s2=>wpAny_pure ?_)
 have p22:IsPair g2 T2 a b:=s2.extBut _ _ W.TOi1 (s1.extBut _ _ W.TOz p2);refine wpAny_bind (wpAny_seqItems p22 rfl ?_);refine wpAny_bind (wpAny_updateSeq_pair p22 fun g3 p23 s3=>?_);replace p23:IsPair g3 T2 x b:=p23;refine wpAny_bind (wpAny_letGo (wpAny_pure ?_));refine wpAny_bind (wpAny_bind (wpAny_onRaise ?_));show wpAny _ _ (Builtin.SmallTypes.nextOf (.ref i2) >>= _) _ _ { s with heap:=g3 };refine wpAny_bind (yU (s:={ s with heap:=g3 }) (u2.by fun o e=>s3.extBut _ o W.TOi2.symm (s2.extBut _ o W.i12.symm (s1.extBut _ o W.i2z e))) (v2.by fun o e=>s3.extBut _ o W.l2TO (s2.extBut _ o W.l2i1 (s1.extBut _ o W.l2z e))) hy fun g4 n2 s4=>wpAny_pure ?_)
 have p24:IsPair g4 T2 x b:=s4.extBut _ _ W.TOi2 p23;refine wpAny_bind (wpAny_seqItems p24 rfl ?_);refine wpAny_bind (wpAny_updateSeq_pair p24 fun g5 p25 s5=>?_);replace p25:IsPair g5 T2 x y:=p25;refine wpAny_bind (wpAny_letGo (wpAny_pure (wpAny_pure ?_)));refine wpAny_bind (wpAny_seqItems p25 rfl ?_);refine wpAny_bind (wpAny_newTuple ?_);have sz:g5.objs.size=s.heap.objs.size:=by rw[s5.1,s4.1,s3.1,s2.1,s1.1]
 have z5:IsZip g5 z T1 T2 .ellipsis:=s5.extBut _ _ W.TOz.symm (s4.extBut _ _ W.i2z.symm (s3.extBut _ _ W.TOz.symm (s2.extBut _ _ W.i1z.symm z1)));have k5:∀c o,c≠z->c≠T2->c≠i1->c≠i2->s.heap.get? c=some o->g5.get? c=some o:=fun c o c1 c2 c3 c4 e=>s5.extBut _ _ c2 (s4.extBut _ _ c4 (s3.extBut _ _ c2 (s2.extBut _ _ c3 (s1.extBut _ _ c1 e))));have n15:Io t1 g5 i1 l1 (k+1):=n1.by fun o e=>s5.extBut _ o W.TOi1.symm (s4.extBut _ o W.i12 (s3.extBut _ o W.TOi1.symm e))
 have n25:Io t2 g5 i2 l2 (k+1):=n2.by fun o e=>s5.extBut _ o W.TOi2.symm e
 have zl:z<g5.objs.size:=Heap.lt_size z5;show wpAny _ _ (Builtin.SmallTypes.ownedTupleHandOut (.ref z) (.ref g5.objs.size) >>= _) _ _ _;refine wpAny_bind ?_;unfold Builtin.SmallTypes.ownedTupleHandOut;have z6:IsZip (g5.push { cls:=.type "tuple",data:=.seq #[x,y] }) z T1 T2 .ellipsis:=Heap.get?_push_of_some _ z5;refine wpAny_bind (wpAny_setField_rec z6 (by simp) fun g7 z7 s7=>?_)
 replace z7:IsZip g7 z T1 T2 (rawInt g5.objs.size):=z7
 refine wpAny_setField_rec z7 (by simp) fun g8 z8 s8=>?_
 replace z8:IsZip g8 z T1 T2 (rawInt g5.objs.size):=z8
 have up:∀c o,c≠z->g5.get? c=some o->g8.get? c=some o:=fun c o c1 e=>s8.extBut _ _ c1 (s7.extBut _ _ c1 (Heap.get?_push_of_some _ e));have pT:IsPair g8 g5.objs.size x y:=s8.extBut _ _ (Yk zl) (s7.extBut _ _ (Yk zl) (Heap.get?_push_size _ rfl));rw[sz]at z8 pT;refine wpAny_pure ⟨_,rfl,wpAny_pure ?_⟩;show Q (some (.ref g5.objs.size)) _;rw[sz];exact q g8 z8 (up _ _ W.TOz p25) (n15.by fun o e=>up _ o W.i1z e) (n25.by fun o e=>up _ o W.i2z e) pT fun c o c1 c2 c3 c4 e=>up c o c1 (k5 c o c1 c2 c3 c4 e)
theorem D8{z T1 T2 i1 i2 l1 l2:Addr}{k:Nat}{xs ys:Array Value}{a b:Value}{Q:Option Value->Shared->Prop}(hh:A.handled=none)(W:ZipApart z T1 T2 i1 i2 l1 l2)(hz:IsZip s.heap z T1 T2 .none)(p1:IsPair s.heap T1 (.ref i1) (.ref i2))(p2:IsPair s.heap T2 a b)
  (u1:Io t1 s.heap i1 l1 k)(u2:Io t2 s.heap i2 l2 k)(v1:So t1 s.heap l1 xs)(v2:So t2 s.heap l2 ys)(hend:xs[k]?=none∨ys[k]?=none)
  (q:∀g,(∀c o,c≠z->c≠T2->c≠i1->c≠i2->s.heap.get? c=some o->g.get? c=some o)->Q none { s with heap:=g }):wpAny (model P w) A (pyNext (.ref z)) Q E s:=by
 have ty:s.TypeIs (.ref z) "zip":=⟨_,hz,rfl⟩;unfold pyNext;have fin:∀g e,(∀c o,c≠z->c≠T2->c≠i1->c≠i2->s.heap.get? c=some o->g.get? c=some o)->(∃o,g.get? e=some o/\o.cls=.type "StopIteration")->wpAny (model P w) A (do if (← isInstance (.ref e) (.type "StopIteration")) then return none else throw (.ref e)) Q E { s with heap:=g }:=fun g e kp ⟨o,ho,ho2⟩ =>
  wpAny_bind (wpAny_isInstance (T:="StopIteration") (b:=true) ⟨o,ho,ho2⟩ isSubtype_stop (wpAny_pure (q g kp)))
 refine wpAny_bind (wpAny_attempt (wpAny_callSpecial?_slot (name:=Str.ofString "__next__") ty F.slot_zip_next (wpAny_call_entry F.slot_zip_next ty F.entry_zip_next ?_ (F.args_zip_next_1 _))));show wpAny _ _ (field (.ref z) 2 >>= _) _ _ s;refine wpAny_bind (wpAny_field hz rfl (x:=.bool false) rfl ?_);show wpAny _ _ (field (.ref z) 3 >>= _) _ _ s;refine wpAny_bind (wpAny_field hz rfl (x:=.ref T1) rfl ?_);refine wpAny_bind (wpAny_seqItems p1 rfl ?_);show wpAny _ _ (Builtin.SmallTypes.ownedTupleIsFree (.ref z) >>= _) _ _ s;refine wpAny_bind ?_;unfold Builtin.SmallTypes.ownedTupleIsFree;refine wpAny_bind (wpAny_field hz rfl (x:=Value.none) rfl (wpAny_pure ?_));simp only[if_true];refine wpAny_bind (wpAny_rule ?_);refine wpAny_bind (wpAny_field hz rfl (x:=.ref T2) rfl ?_);refine wpAny_bind (wpAny_setField_rec hz (by simp) fun g1 z1 s1=>?_)
 replace z1:IsZip g1 z T1 T2 .ellipsis:=z1
 refine wpAny_bind ?_;simp only[List.forIn_cons,List.forIn_nil,List.zipIdx_cons,List.zipIdx_nil];refine wpAny_bind (wpAny_bind (wpAny_onRaise ?_));show wpAny _ _ (Builtin.SmallTypes.nextOf (.ref i1) >>= _) _ _ { s with heap:=g1 };have w1:Io t1 g1 i1 l1 k:=u1.by fun o e=>s1.extBut _ o W.i1z e
 have w2:So t1 g1 l1 xs:=v1.by fun o e=>s1.extBut _ o W.l1z e
 cases hx:xs[k]? with
 | none =>
  refine wpAny_bind (yV (s:={ s with heap:=g1 }) hh w1 w2 hx fun g2 e s2 he=>?_);obtain⟨oe,he1,he2⟩:=he;have z2:IsZip g2 z T1 T2 .ellipsis:=s2 _ _ W.i1z.symm z1;have ne:e≠z:=fun m=>by subst m;rw[z2]at he1;cases he1;simp at he2
  exact wpAny_setField_rec z2 (by simp) fun g3 _ s3=>fin g3 e (fun c o c1 _ c3 _ m=>s3.extBut _ _ c1 (s2 _ _ c3 (s1.extBut _ _ c1 m))) ⟨oe,s3.extBut _ _ ne he1,he2⟩
 | some x =>
  have hy:ys[k]?=none:=by
   rcases hend with m|m
   ·rw[hx]at m;cases m
   ·exact m
  refine wpAny_bind (yU (s:={ s with heap:=g1 }) w1 w2 hx fun g2 n1 s2=>wpAny_pure ?_);have p22:IsPair g2 T2 a b:=s2.extBut _ _ W.TOi1 (s1.extBut _ _ W.TOz p2);refine wpAny_bind (wpAny_seqItems p22 rfl ?_);refine wpAny_bind (wpAny_updateSeq_pair p22 fun g3 p23 s3=>?_);refine wpAny_bind (wpAny_letGo (wpAny_pure ?_));refine wpAny_bind (wpAny_bind (wpAny_onRaise ?_));show wpAny _ _ (Builtin.SmallTypes.nextOf (.ref i2) >>= _) _ _ { s with heap:=g3 };refine wpAny_bind (yV (s:={ s with heap:=g3 }) hh (u2.by fun o e=>s3.extBut _ o W.TOi2.symm (s2.extBut _ o W.i12.symm (s1.extBut _ o W.i2z e))) (v2.by fun o e=>s3.extBut _ o W.l2TO (s2.extBut _ o W.l2i1 (s1.extBut _ o W.l2z e))) hy fun g4 e s4 he=>?_)
  obtain⟨oe,he1,he2⟩:=he;have z4:IsZip g4 z T1 T2 .ellipsis:=s4 _ _ W.i2z.symm (s3.extBut _ _ W.TOz.symm (s2.extBut _ _ W.i1z.symm z1));have ne:e≠z:=fun m=>by subst m;rw[z4]at he1;cases he1;simp at he2
  exact wpAny_setField_rec z4 (by simp) fun g5 _ s5=>fin g5 e (fun c o c1 c2 c3 c4 m=>s5.extBut _ _ c1 (s4 _ _ c4 (s3.extBut _ _ c2 (s2.extBut _ _ c3 (s1.extBut _ _ c1 m))))) ⟨oe,s5.extBut _ _ ne he1,he2⟩
end
end VF22
namespace VF22
open PySem PySem.Spec PyProof.Rows L2 VF
section
variable {t t1 t2:Bool}{P:Program}{w:World}{A:Around}{E:Value->Shared->Prop}{s:Shared}
noncomputable def zI(t:Bool)(l:Addr):Obj:={ cls:=.type (ItN t),data:=.fields #[.ref l,.int 0 0] }
theorem vq{l:Addr}{xs:Array Value}{Q:Value->Shared->Prop}(b:So t s.heap l xs)(q:Q (.ref s.heap.objs.size) { s with heap:=s.heap.push (zI t l) }):wpAny (model P w) A (pyIter (.ref l)) Q E s:=by
 cases t with
 | false=>exact wpAny_pyIter_list (items:=xs) b q
 | true=>exact wpAny_pyIter_tuple (items:=xs) b q
noncomputable abbrev zA(t1:Bool)(h:Heap)(l1:Addr):Heap:=h.push (zI t1 l1)
noncomputable abbrev zB(t1 t2:Bool)(h:Heap)(l1 l2:Addr):Heap:=(zA t1 h l1).push (zI t2 l2)
noncomputable abbrev zC(t1 t2:Bool)(h:Heap)(l1 l2:Addr):Heap:=(zB t1 t2 h l1 l2).push { cls:=.type "tuple",data:=.seq #[.ref h.objs.size,.ref (zA t1 h l1).objs.size] }
noncomputable abbrev zD(t1 t2:Bool)(h:Heap)(l1 l2:Addr):Heap:=(zC t1 t2 h l1 l2).push { cls:=.type "tuple",data:=.seq #[.none,.none] }
noncomputable abbrev zE(t1 t2:Bool)(h:Heap)(l1 l2:Addr):Heap:=(zD t1 t2 h l1 l2).push { cls:=.type "zip",data:=.fields #[.none,.bool false,.bool false,.ref (zB t1 t2 h l1 l2).objs.size,.ref (zC t1 t2 h l1 l2).objs.size] }
theorem yW(t1 t2:Bool)(l1 l2:Addr)(xs ys:Array Value):Meets (Builtin.«zip.__new__» ⟨[.type "zip",.ref l1,.ref l2],[]⟩) (fun _ R s=>So t1 s.heap l1 xs/\So t2 s.heap l2 ys /\
   R (.ok (.ret (.ref (zD t1 t2 s.heap l1 l2).objs.size))) { s with heap:=zE t1 t2 s.heap l1 l2 }) :=
 .of_wp fun prog w A R s h=>by
  obtain⟨hp,g,d,tk,os⟩:=s;obtain⟨v1,v2,h⟩:=h;have hsub:=sub_zip;have L1:So t1 (Shared.heap ⟨hp,g,d,tk,os⟩) l1 xs:=v1;have L2:So t2 (Shared.heap ⟨hp.push (zI t1 l1),g,d,tk,os⟩) l2 ys:=So.by v2 fun o e=>Heap.get?_push_of_some _ e
  wp_walk using vq L1,vq L2
  exact⟨_,rfl,h⟩
theorem yX{l1 l2:Addr}{xs ys:Array Value}{Q:Value->Shared->Prop}(v1:So t1 s.heap l1 xs)(v2:So t2 s.heap l2 ys)
  (q:∀g,IsZip g (s.heap.objs.size+4) (s.heap.objs.size+2) (s.heap.objs.size+3) .none->IsPair g (s.heap.objs.size+2) (.ref s.heap.objs.size) (.ref (s.heap.objs.size+1))->IsPair g (s.heap.objs.size+3) .none .none ->
   Io t1 g s.heap.objs.size l1 0->Io t2 g (s.heap.objs.size+1) l2 0->(∀c o,s.heap.get? c=some o->g.get? c=some o)->Q (.ref (s.heap.objs.size+4)) { s with heap:=g }) :
  wpAny (model P w) A (call (.type "zip") [.ref l1,.ref l2]) Q E s:=by
 refine callType_new F.called_zip (by decide) (F.typeCall_zip_2 _ _) (F.newCall_zip_2 _ _) (fun obj=>F.args_object_init_3 obj _ _) F.entry_zip_new (yW t1 t2 l1 l2 xs ys) ⟨v1,v2,?_⟩
 have m1:(zA t1 s.heap l1).objs.size=s.heap.objs.size+1:=Heap.size_push ..;have m2:(zB t1 t2 s.heap l1 l2).objs.size=s.heap.objs.size+2:=by rw[Heap.size_push,m1]
 have m3:(zC t1 t2 s.heap l1 l2).objs.size=s.heap.objs.size+3:=by rw[Heap.size_push,m2]
 have m4:(zD t1 t2 s.heap l1 l2).objs.size=s.heap.objs.size+4:=by rw[Heap.size_push,m3]
 have g5:(zE t1 t2 s.heap l1 l2).get? (zD t1 t2 s.heap l1 l2).objs.size=some _:=Heap.get?_push_size _ rfl;have g4:(zE t1 t2 s.heap l1 l2).get? (zC t1 t2 s.heap l1 l2).objs.size=some _:=Heap.get?_push_of_some _ (Heap.get?_push_size _ rfl);have g3:(zE t1 t2 s.heap l1 l2).get? (zB t1 t2 s.heap l1 l2).objs.size=some _:=Heap.get?_push_of_some _ (Heap.get?_push_of_some _ (Heap.get?_push_size _ rfl));have g2:(zE t1 t2 s.heap l1 l2).get? (zA t1 s.heap l1).objs.size=some (zI t2 l2):=Heap.get?_push_of_some _ (Heap.get?_push_of_some _ (Heap.get?_push_of_some _ (Heap.get?_push_size _ rfl)));have g1:(zE t1 t2 s.heap l1 l2).get? s.heap.objs.size=some (zI t1 l1):=Heap.get?_push_of_some _ (Heap.get?_push_of_some _ (Heap.get?_push_of_some _ (Heap.get?_push_of_some _ (Heap.get?_push_size _ rfl))));show _/\_;rw[m2,m3,m4]at g5;rw[m1,m2]at g3;rw[m3]at g4;rw[m1]at g2;rw[m4];exact⟨⟨_,g5,rfl⟩,q _ g5 g3 g4 ⟨_,g1,rfl,rfl⟩ ⟨_,g2,rfl,rfl⟩ fun c o e=>Heap.get?_push_of_some _ (Heap.get?_push_of_some _ (Heap.get?_push_of_some _ (Heap.get?_push_of_some _ (Heap.get?_push_of_some _ e))))⟩
end
section
variable {X:Cx}{K:PySem.W.Frag}{t t1 t2:Bool}{pins:List (Addr×Obj)}{σ:L2.St}{H:Hp}{s:Shared}{h':Heap}
theorem vt{t':Nat}{ch:List Addr}(I:L2.Inv X pins σ H s)(f:∀b∈ch,iz X pins H b)(k:∀b o,b∉ch->s.heap.get? b=some o->h'.get? b=some o):L2.Inv X pins σ H { s with heap:=h',toks:=t' }:=by
 have nit:∀b u,H b=some u->b∉ch:=fun b u e z=>by rw[(f b z).1]at e;cases e
 refine I.step (g':=s.gens) (d':=s.drawn) (ch:=ch) (fun b hb=>?_) (fun b o _ _ hc e _=>k b o hc e) (fun b o _ _ hc e _=>⟨o.slots,k b o hc e⟩) (fun _ _ _ _ n=>n)
  (fun b o hc e=>⟨o,k b o hc e⟩) (fun _ _ e=>e) (fun _ _ _ e=>e) (fun b ps e=>⟨#[],by rw[e];simp⟩) (fun m hm=>?_) (fun b u e=>?_) I.bare
 ·obtain⟨_,f1,_,f3,f4,f5⟩:=f b hb;exact⟨f3,f1,f4,f5⟩
 ·obtain⟨o,es,ep,ho,r⟩:=hm;exact⟨o,es,ep,k _ o (fun z=>(f _ z).2.1 rfl) ho,r⟩
 ·refine(I.hok b u e).stay (fun c v hc q=>k c v ?_ q) (fun _ q=>q) fun _ _ q=>q;rcases hc with z|z
  ·rw[z];exact nit b u e
  ·exact nit c _ z
noncomputable def Sq(K:PySem.W.Frag)(t:Bool)(H:Hp)(a:Addr)(xs:List V):Prop:=if t then SqT K H a xs else SqL K H a xs
theorem Sq.so{l:Addr}{xs:List V}(I:L2.Inv X pins σ H s)(h:Sq X.K t H l xs):∃its:List Value,Vals xs its/\So t s.heap l its.toArray:=by
 cases t with
 | false =>
  obtain⟨its,rv,p,_⟩:=I.list h;exact⟨its,rv,p.isList⟩
 | true =>
  obtain⟨its,rv,p,_⟩:=I.tuple h;exact⟨its,rv,p⟩
theorem Sq.inj{l:Addr}{xs ys:List V}(I:L2.Inv X pins σ H s)(h:Sq X.K t H l xs)(h2:Sq X.K t H l ys):xs=ys:=by
 cases t with
 | false=>exact I.list_inj h h2
 | true=>exact I.tuple_inj h h2
noncomputable def Itz(K : PySem.W.Frag)(t1 t2 : Bool)(l1 l2 : Addr) : It :=
  ⟨fun i H => ∃ xs ys x y, Sq K t1 H l1 xs ∧ Sq K t2 H l2 ys ∧ xs[i]? = some x ∧ ys[i]? = some y,
   fun i H v H' => ∃ p x y, v = .ref p ∧ H p = none ∧ H' = upd H p (.tup [x, y]) ∧ (∀ xs, Sq K t1 H l1 xs → xs[i]? = some x) ∧ ∀ ys, Sq K t2 H l2 ys → ys[i]? = some y,
   fun i H => ∃ xs ys, Sq K t1 H l1 xs ∧ Sq K t2 H l2 ys ∧ (xs.length ≤ i ∨ ys.length ≤ i)⟩
noncomputable def Zs(t1 t2:Bool)(z T1 T2 i1 i2 l1 l2:Addr)(i:Nat)(h:Heap):Prop:=IsZip h z T1 T2 .none/\IsPair h T1 (.ref i1) (.ref i2)/\(∃a b,IsPair h T2 a b)/\Io t1 h i1 l1 i/\Io t2 h i2 l2 i
theorem F4{b z T1 T2 i1 i2:Addr}(h:b∈[z,T1,T2,i1,i2]):b=z∨b=T1∨b=T2∨b=i1∨b=i2:=by simpa using h
theorem Zs.at{h:Heap}{z T1 T2 i1 i2 l1 l2:Addr}{i:Nat}{b:Addr}(st:Zs t1 t2 z T1 T2 i1 i2 l1 l2 i h)(hb:b∈[z,T1,T2,i1,i2]):∃o,h.get? b=some o/\∀v,o.data≠.cell v:=by
 obtain⟨a1,a2,⟨_,_,a3⟩,⟨o1,a4,_,d4⟩,⟨o2,a5,_,d5⟩⟩:=st;rcases F4 hb with rfl|rfl|rfl|rfl|rfl
 ·exact⟨_,a1,fun v m=>by cases m⟩
 ·exact⟨_,a2,fun v m=>by cases m⟩
 ·exact⟨_,a3,fun v m=>by cases m⟩
 ·exact⟨_,a4,fun v m=>by rw[d4]at m;cases m⟩
 ·exact⟨_,a5,fun v m=>by rw[d5]at m;cases m⟩
theorem yY{P:Program}{w:World}{es:List Expr}{x1}{ps:Pos}{z T1 T2 i1 i2 l1 l2:Addr}(W:ZipApart z T1 T2 i1 i2 l1 l2):Turn P w K (.Tuple es x1 ps) (Itz K t1 t2 l1 l2) [z,T1,T2,i1,i2] z (Zs t1 t2 z T1 T2 i1 i2 l1 l2) where
 mem:=.head _
 obj:=fun i h st b hb=>st.at hb
 keep:=fun i h h' st k=>by
  obtain⟨a1,a2,⟨a,b,a3⟩,a4,a5⟩:=st;exact⟨k z (.head _) _ a1,k T1 (.tail _ (.head _)) _ a2,⟨a,b,k T2 (.tail _ (.tail _ (.head _))) _ a3⟩,a4.by fun o e=>k i1 (.tail _ (.tail _ (.tail _ (.head _)))) o e,a5.by fun o e=>k i2 (.tail _ (.tail _ (.tail _ (.tail _ (.head _))))) o e⟩
 item:=by
  intro X hP hw hK hc i pins s σ H E I hf st hg;subst hP hw hK;obtain⟨xs,ys,x,y,q1,q2,e1,e2⟩:=hg;obtain⟨is,r1,v1⟩:=q1.so I;obtain⟨js,r2,v2⟩:=q2.so I;obtain⟨u,hu,ru⟩:=r1.get e1;obtain⟨v,hv,rv⟩:=r2.get e2;have hn:H s.heap.objs.size=none:=I.hok.fresh (Va _);have lt:∀b∈[z,T1,T2,i1,i2],b≠s.heap.objs.size:=fun b hb=>by
   obtain⟨o,ho,_⟩:=Zs.at st hb;exact Zg (Heap.lt_size ho)
  obtain⟨a1,a2,⟨a,b,a3⟩,a4,a5⟩:=st;refine F3 W a1 a2 a3 a4 a5 v1 v2 (x:=u) (y:=v) (by simpa using hu) (by simpa using hv) fun g z1 p2 n1 n2 pT kp=>?_
  refine⟨_,rfl,wpAny_letOwnedTupleGo_zip (s:={ s with heap:=g }) z1 fun g2 z2 sb=>?_⟩;have kk:∀c o,c≠z->c≠T2->c≠i1->c≠i2->s.heap.get? c=some o->g2.get? c=some o:=fun c o c1 c2 c3 c4 e=>sb.extBut _ _ c1 (kp c o c1 c2 c3 c4 e);have pT2:IsPair g2 s.heap.objs.size u v:=sb.extBut _ _ (Ne.symm (lt z (.head _))) pT;have I1:L2.Inv X pins σ (upd H s.heap.objs.size (.tup [x,y])) { s with heap:=s.heap.push { cls:=.type "tuple",data:=.seq #[u,v] },toks:=s.toks } :=
   I.laid (fun b o e=>Heap.get?_push_of_some _ e) (Va _) ⟨show 2<=sizeLine by decide,[u,v],.cons ru (.cons rv .nil),⟨_,Heap.get?_push_size _ rfl,rfl,_,rfl⟩⟩
  have ff:∀b∈[z,T1,T2,i1,i2],iz X pins (upd H s.heap.objs.size (.tup [x,y])) b:=fun b hb=>by
   obtain⟨f0,f1,f2,f3,f4,f5⟩:=hf b hb;exact⟨by rw[aT (lt b hb)];exact f0,f1,f2,f3,f4,f5⟩
  have I2:L2.Inv X pins σ (upd H s.heap.objs.size (.tup [x,y])) { s with heap:=g2 }:=by
   refine vt (s:={ s with heap:=s.heap.push { cls:=.type "tuple",data:=.seq #[u,v] } }) (t':=s.toks) I1 ff fun c o hc e=>?_;rcases Heap.get?_push_cases e with⟨rfl,rfl⟩|e
   ·exact pT2
   ·exact kk c o (fun m=>hc (m ▸ .head _)) (fun m=>hc (m ▸ .tail _ (.tail _ (.head _)))) (fun m=>hc (m ▸ .tail _ (.tail _ (.tail _ (.head _))))) (fun m=>hc (m ▸ .tail _ (.tail _ (.tail _ (.tail _ (.head _)))))) e
  refine⟨.ref s.heap.objs.size,_,I2,rfl,⟨_,x,y,rfl,hn,rfl,fun zs hz=>by rw[hz.inj I q1];exact e1,fun zs hz=>by rw[hz.inj I q2];exact e2⟩,?_,fun b hb=>(ff b hb).1⟩
  exact⟨z2,sb.extBut _ _ W.TIz (kp _ _ W.TIz W.TITO W.TIi1 W.TIi2 a2),⟨_,_,sb.extBut _ _ W.TOz p2⟩,n1.by fun o e=>sb.extBut _ o W.i1z e,n2.by fun o e=>sb.extBut _ o W.i2z e⟩
 done:=by
  intro X hP hw hK hc i pins s σ H E I hf st hg;subst hP hw hK;obtain⟨xs,ys,q1,q2,hl⟩:=hg;obtain⟨a1,a2,⟨a,b,a3⟩,a4,a5⟩:=st;obtain⟨is,r1,v1⟩:=q1.so I;obtain⟨js,r2,v2⟩:=q2.so I;have l1:=r1.length;have l2:=r2.length;refine D8 (I.ok.hd hc) W a1 a2 a3 a4 a5 v1 v2 (hl.imp (fun m=>by rw[List.getElem?_toArray];exact Wn (l1 ▸ m)) fun m=>by rw[List.getElem?_toArray];exact Wn (l2 ▸ m)) fun g kp=>⟨rfl,vt (t':=s.toks) I hf fun c o hc e=>?_⟩
  exact kp c o (fun m=>hc (m ▸ .head _)) (fun m=>hc (m ▸ .tail _ (.tail _ (.head _)))) (fun m=>hc (m ▸ .tail _ (.tail _ (.tail _ (.head _))))) (fun m=>hc (m ▸ .tail _ (.tail _ (.tail _ (.tail _ (.head _)))))) e
 self:=fun _ _ _ _ _ st h=>wpAny_pyIter_zip st.1 h
noncomputable def D9(K:PySem.W.Frag)(ta:TA):TI:=fun σ H R=>ta σ H fun vs H1=>∃t1 t2 l1 l2 xs ys,vs=[.ref l1,.ref l2]/\Sq K t1 H1 l1 xs/\Sq K t2 H1 l2 ys/\R (Itz K t1 t2 l1 l2) H1
theorem boot_zip:bootBuiltins "zip"=some (.type "zip"):=by decide +kernel
theorem Bu{a b:Expr}{es:List Expr}{x1}{ps:Pos}{ta:TA}{p pos:Pos}(hg:Gl X "zip")(hm:X.mg "zip"=none)(ha:PA X [a,b] ta)(hs:starEach [a,b] X.env=[(false,eval a X.env),(false,eval b X.env)])(hs2:starEach [b] X.env=[(false,eval b X.env)]) :
  PI X (.Tuple es x1 ps) (.Call (.Name "zip" p) [a,b] [] pos) (D9 X.K ta):=by
 intro pins s σ H R I h;refine Call_ (jM I hg hm boot_zip (PyProof.Rows.callWith_type1 (thn (ha pos pins s σ H _ I h) fun us s1 ⟨vs,H1,I1,r1,q1⟩=>?_) (by rw[hs,hs2]) (by rw[hs2];rfl)))
 obtain⟨t1,t2,l1,l2,xs,ys,e,w1,w2,q⟩:=q1;subst e;cases r1 with
 | cons r rr =>
  cases rr with
  | cons r' rr =>
   cases rr;cases r;cases r';obtain⟨is,r1,v1⟩:=w1.so I1;obtain⟨js,r2,v2⟩:=w2.so I1;refine yX v1 v2 fun g z p1 p2 n1 n2 kp=>?_;obtain⟨o1,ho1,_⟩:=id v1;obtain⟨o2,ho2,_⟩:=id v2;refine wpAny_pyIter_zip (s:={ s1 with heap:=g }) z ⟨_,[s1.heap.objs.size+4,s1.heap.objs.size+2,s1.heap.objs.size+3,s1.heap.objs.size,s1.heap.objs.size+1],_,_,H1,rfl,I1.kept (t':=s1.toks) kp,yY (PySem.W.ktu_apart _ _ _ (Heap.lt_size ho1) (Heap.lt_size ho2)),⟨z,p1,⟨_,_,p2⟩,n1,n2⟩,fun b hb=>?_,q⟩;have hb':=F4 hb;have le:s1.heap.objs.size<=b:=by
    rcases hb' with m|m|m|m|m<;>(rw[m];first|exact Vj _ _|exact Va _)
   exact I1.fpOk le (I1.hok.fresh le)
end
end VF22
namespace VF22
open PySem L2 VF
section
variable {X:Cx}{K:PySem.W.Frag}{O O' Z:AS}{H H':Hp}{v:V}{d:D}
noncomputable def sqD:D->Option (List D)
 | .lst ds=>some ds
 | .fl ds=>some ds
 | .tup ds=>some ds
 | _=>none
noncomputable def Ea:List D->Option (List D×List D)
 | [a,b]=>(sqD a).bind fun x=>(sqD b).bind fun y=>some (x,y)
 | _=>none
noncomputable def pr(a b:D):D:=.tup [a,b]
noncomputable def fIZ(fa:FA):FI:=fun st=>(fa st).bind fun x=>(ef x.1 x.2).bind fun y=>(Ea y.1).bind fun w=>some (List.zipWith pr w.1 w.2,y.2)
theorem CH{is:List D}(da:DA K (U O Z) H v d)(e:sqD d=some is):∃t l ws,v=.ref l/\∀H' O',Ext O H O' H'->Sq K t H' l ws/\El K (U O' Z) H' ws is:=by
 cases d with
 | lst ds =>
  cases e;cases da with
  | @lst a vs _ h0 h1 h2 h3=>exact⟨false,a,vs,rfl,fun H' O' ex=>⟨.inl (.inl (ex.kp a _ h1 fun z=>h0 (.inl z))),El.ext ⟨h2,h3⟩ ex⟩⟩
 | fl ds =>
  cases e;cases da with
  | @fl a vs _ h1 h2 h3 =>
   refine⟨false,a,vs,rfl,fun H' O' ex=>⟨?_,El.ext ⟨h2,h3⟩ ex⟩⟩;rcases h1 with⟨h1,hn⟩|h1
   ·exact .inl (Rd.keep h1 fun o e=>ex.kp a o e fun z=>hn (.inl z))
   ·exact h1 H'
 | tup ds =>
  cases e;cases da with
  | @tup a vs _ h1 h2 h3 =>
   refine⟨true,a,vs,rfl,fun H' O' ex=>⟨?_,El.ext ⟨h2,h3⟩ ex⟩⟩;exact .inl (.inl (ex.kp a _ h1.1 fun z=>h1.2 (.inl z)))
 | _=>cases e
theorem F5{as bs:List D}{i:Nat}{d:D}(h:(List.zipWith pr as bs)[i]?=some d):∃a b,as[i]?=some a/\bs[i]?=some b/\d=.tup [a,b]:=by
 rw[List.getElem?_zipWith]at h;cases ea:as[i]? with
 | none=>rw[ea]at h;cases h
 | some a =>
  cases eb:bs[i]? with
  | none=>rw[ea,eb]at h;cases h
  | some b =>
   rw[ea,eb]at h;exact⟨a,b,rfl,rfl,(Option.some.inj h).symm⟩
set_option tactic.hygienic true in
theorem Eb{ta:TA}{fa:FA}(h:RdA K ta fa):RdI K (D9 K ta) (fIZ fa):=by
 intro st σ H O Z R E items st' e q;refine bsP e fun rs st1 e1 e=>?_;refine bsP e fun ds st2 e2 e=>?_;refine bsP e fun as bs e3 e=>?_;cases e;refine h st σ H O Z _ E rs st1 e1 fun vs H1 O1 x1 k1 E1 rvs=>?_;obtain⟨O2,x2,k2,E2,el⟩:=rvs.esc E1 e2;replace e3:Ea ds=some (as,bs):=e3;unfold Ea at e3;split at e3
 ·rename_i a b
  refine bsO e3 fun as' e4 e3=>?_;refine bsO e3 fun bs' e5 e3=>?_;cases e3;obtain⟨v1,r,rfl,da1,el⟩:=el.uncons;obtain⟨v2,r,rfl,da2,el⟩:=el.uncons;obtain rfl:=el.unnil;obtain⟨t1,l1,xs,rfl,k3⟩:=CH da1 e4;obtain⟨t2,l2,ys,rfl,k4⟩:=CH da2 e5;refine⟨t1,t2,l1,l2,xs,ys,rfl,(k3 H1 O2 (Ext.refl _ _)).1,(k4 H1 O2 (Ext.refl _ _)).1,q _ H1 O2 (x1.trans x2) (k1.trans k2) E2 fun H' O' ex liv=>?_⟩;obtain⟨s1,el1⟩:=k3 H' O' ex;obtain⟨s2,el2⟩:=k4 H' O' ex;have n1:=el1.1;have n2:=el2.1;refine⟨fun i hi=>⟨xs,ys,s1,s2,?_⟩,fun i d hd=>?_⟩
  ·replace hi:(List.zipWith pr as bs).length<=i:=hi
   rw[List.length_zipWith]at hi;lia
  ·obtain⟨a,b,ha,hb,rfl⟩:=F5 hd;obtain⟨x,hx,dx⟩:=el1.at ha;obtain⟨y,hy,dy⟩:=el2.at hb;refine⟨⟨xs,ys,x,y,s1,s2,hx,hy⟩,?_⟩;rintro v H'' ⟨p,x',y',rfl,hn,rfl,f1,f2⟩;have ex':=f1 xs s1;have ey':=f2 ys s2;rw[hx]at ex';rw[hy]at ey';cases ex';cases ey';have sm:=bj hn (.tup [x,y]);exact⟨sm,.tup ⟨br,fun z=>(liv p z).1 hn⟩ rfl ((El.cons dx (El.one dy)).same sm).2⟩
 ·cases e3
theorem Ec{a b:Expr}{es:List Expr}{x1}{ps:Pos}{te te2:TE}{p pos:Pos}(h:X.K=K)(hg:Gl X "zip")(hs:starEach [a,b] X.env=[(false,eval a X.env),(false,eval b X.env)])(hs2:starEach [b] X.env=[(false,eval b X.env)])(hm:X.mg "zip"=none)(ha:PE X a te)(hb:PE X b te2) :
  PI X (.Tuple es x1 ps) (.Call (.Name "zip" p) [a,b] [] pos) (D9 K (kz te (kz te2 wv))):=by
 subst h;exact Bu hg hm (kB ha (kB hb ag hs2) (by rw[hs,hs2])) hs hs2
end
end VF22
namespace TS
open PySem PyProof.Rows
theorem eO{M:Model}{A:Around}{E:Value->Shared->Prop}{s:Shared}{σ γ:Type}{X Y:StateT σ Sem γ}{p:Prop}{d:Decidable p}{Q:γ->σ->Prop}{st:σ}(h:p)(k:wpS M A E s X Q st):wpS M A E s (@ite _ p d X Y) Q st:=by rw[if_pos h];exact k
theorem dY{M:Model}{A:Around}{E:Value->Shared->Prop}{s:Shared}{σ γ:Type}{X Y:StateT σ Sem γ}{p:Prop}{d:Decidable p}{Q:γ->σ->Prop}{st:σ}(h:¬ p)(k:wpS M A E s Y Q st):wpS M A E s (@ite _ p d X Y) Q st:=by rw[if_neg h];exact k
theorem yZ{α β:Type}(f:α->β)(x:Array α)(i j:Nat):(x.map f).swapIfInBounds i j=(x.swapIfInBounds i j).map f:=by
 apply Array.ext_getElem?
 intro k;by_cases hi:i<x.size
 ·by_cases hj:j<x.size
  ·rw[getElem?_swapIB (by rw[Zn];exact hi) (by rw[Zn];exact hj),Ym,Ym,Ym,Ym,getElem?_swapIB hi hj]
   split
   ·rfl
   ·split<;>rfl
  ·rw[Array.swapIfInBounds_def,Array.swapIfInBounds_def,dif_pos (by rw[Zn];exact hi),dif_pos hi,dif_neg (by rw[Zn];exact hj),dif_neg hj]
 ·rw[Array.swapIfInBounds_def,Array.swapIfInBounds_def,dif_neg (by rw[Zn];exact hi),dif_neg hi]
theorem lI{α β γ:Type}(f:α->β)(p q:γ->Nat):∀(l:List γ)(x:Array α),l.foldl (fun a k=>a.swapIfInBounds (p k) (q k)) (x.map f)=(l.foldl (fun a k=>a.swapIfInBounds (p k) (q k)) x).map f
 | [],x=>rfl
 | k::l,x=>by
  rw[List.foldl_cons,List.foldl_cons,yZ];exact lI f p q l _
theorem uk{α β:Type}(f:α->β)(x:Array α)(i d:Nat):bubble (x.map f) i d=(bubble x i d).map f:=lI f _ _ _ x
theorem gR{α β:Type}(f:α->β)(x:Array α)(i j d:Nat):mirror (x.map f) i j d=(mirror x i j d).map f:=lI f _ _ _ x
structure Cm(prog:Program)(w:World)(A:Around)(s:Shared)(k:SortKind)(f:Nat->Keyed)(N:Nat)(c:Nat->Nat->Bool):Prop where
 lt:∀(E:Value->Shared->Prop)(Q:Bool->Shared->Prop)(g h:Nat),g<N->h<N->Q (c g h) s->wpAny (model prog w) A (keyLt' k (f g).1 (f h).1) Q E s
 irr:∀g,c g g=false
 tra:∀g h i,c g h=true->c h i=true->c g i=true
 neg:∀g h i,c g i=true->c g h=true∨c h i=true
noncomputable def Bf(c:Nat->Nat->Bool)(g h:Nat):Prop:=c g h=true∨(c h g=false/\g<h)
structure Rp(k:SortKind)(f:Nat->Keyed)(N:Nat)(st:SortSt)(γ:Array Nat):Prop where
 arr:arrOf st=γ.map f
 kind:kindOf st=k
 fine:failedOf st=none
 perm:γ.Perm (Array.range N)
section
variable {prog:Program}{w:World}{A:Around}{E:Value->Shared->Prop}{s:Shared}{k:SortKind}{f:Nat->Keyed}{N:Nat}{c:Nat->Nat->Bool}{st:SortSt}{γ:Array Nat}
theorem Cm.asy(C:Cm prog w A s k f N c){g h:Nat}(e:c g h=true):c h g=false:=by
 cases e':c h g with
 | false=>rfl
 | true=>exact absurd (C.tra g h g e e') (by rw[C.irr];exact Bool.noConfusion)
theorem Cm.le(C:Cm prog w A s k f N c){g h:Nat}(e:Bf c g h):c h g=false:=by
 rcases e with e|e
 ·exact C.asy e
 ·exact e.1
theorem Cm.letr(C:Cm prog w A s k f N c){g h i:Nat}(e:c h g=false)(e':c i h=false):c i g=false:=by
 cases e2:c i g with
 | false=>rfl
 | true =>
  rcases C.neg i h g e2 with q|q
  ·rw[q]at e';exact e'
  ·rw[q]at e;exact e
theorem Cm.trans(C:Cm prog w A s k f N c){g h i:Nat}(e:Bf c g h)(e':Bf c h i):Bf c g i:=by
 have l:=C.letr (C.le e) (C.le e');cases e2:c g i with
 | true=>exact .inl e2
 | false =>
  refine .inr ⟨l,?_⟩;rcases e with e|e
  ·rcases C.neg g i h e with q|q
   ·rw[q]at e2;cases e2
   ·rw[C.le e']at q;cases q
  ·rcases e' with e'|e'
   ·rcases C.neg h g i e' with q|q
    ·rw[e.1]at q;cases q
    ·rw[q]at e2;cases e2
   ·exact Nat.lt_trans e.2 e'.2
theorem Rp.size(R:Rp k f N st γ):γ.size=N:=by rw[R.perm.size_eq,Qj]
theorem Rp.bnd(R:Rp k f N st γ){i g:Nat}(e:γ[i]?=some g):g<N:=by
 have hm:g∈γ:=Array.mem_of_getElem? e;exact Array.mem_range.mp (R.perm.mem_iff.mp hm)
theorem Rp.at(R:Rp k f N st γ){i g:Nat}(e:γ[i]?=some g):(arrOf st)[i]?=some (f g):=by rw[R.arr,Ym,e];rfl
theorem Rp.put(R:Rp k f N st γ){γ':Array Nat}{x:Array Keyed}(p:γ'.Perm γ)(e:x=γ'.map f):Rp k f N (setArr st x) γ':=⟨e,R.kind,R.fine,p.trans R.perm⟩
theorem sx(C:Cm prog w A s k f N c)(hk:kindOf st=k){g h:Nat}(bg:g<N)(bh:h<N){Q:Option Bool->SortSt->Prop}(q:Q (some (c g h)) st):wpS (model prog w) A E s (lt' (f g) (f h)) Q st:=by
 rw[lt'_eq];refine wpS_bind (wpS_get ?_);subst hk;exact wpS_bind (wpS_lift (wpAny_attempt (C.lt _ _ g h bg bh ⟨rfl,wpS_pure q⟩)))
theorem jm(C:Cm prog w A s k f N c)(R:Rp k f N st γ){i j g h:Nat}(ei:γ[i]?=some g)(ej:γ[j]?=some h){Q:Option Bool->SortSt->Prop}(q:Q (some (c g h)) st):wpS (model prog w) A E s (ltAt' i j) Q st:=by
 rw[ltAt'_eq];refine wpS_bind (wpS_get ?_);dsimp only;rw[elem'_eq,elem'_eq,R.at ei,R.at ej];exact wpS_bind (wpS_pure (wpS_bind (wpS_pure (sx C R.kind (R.bnd ei) (R.bnd ej) q))))
end
end TS
namespace TS
open PySem PyProof.Rows
noncomputable def Sg(c:Nat->Nat->Bool)(γ:Array Nat)(lo hi:Nat):Prop:=∀i j g h,lo<=i->i<j->j<hi->γ[i]?=some g->γ[j]?=some h->Bf c g h
noncomputable def Ow(γ:Array Nat)(lo hi:Nat):Prop:=∀i g,lo<=i->i<hi->γ[i]?=some g->lo<=g/\g<hi
noncomputable def Raw(γ:Array Nat)(lo hi:Nat):Prop:=∀i,lo<=i->i<hi->γ[i]?=some i
noncomputable def Out(γ γ':Array Nat)(lo hi:Nat):Prop:=∀i,i<lo∨hi<=i->γ'[i]?=γ[i]?
theorem Out.refl(γ:Array Nat)(lo hi:Nat):Out γ γ lo hi:=fun _ _=>rfl
section
variable {prog:Program}{w:World}{A:Around}{E:Value->Shared->Prop}{s:Shared}{k:SortKind}{f:Nat->Keyed}{N:Nat}{c:Nat->Nat->Bool}{st:SortSt}{γ:Array Nat}
theorem iK{γ:Array Nat}{i:Nat}(h:i<γ.size):∃g,γ[i]?=some g:=⟨_,Array.getElem?_eq_getElem h⟩
theorem mid{l u:Nat}(h:l<u):l<=(l+u) / 2/\(l+u) / 2<u:=⟨(Nat.le_div_iff_mul_le (by decide)).mpr (by lia),(Nat.div_lt_iff_lt_mul (by decide)).mpr (by lia)⟩
theorem F6{l u t m y:Nat}(h:u-l<=m-y)(h1:t<u)(h2:l<=t):t-l<=m-(y+1):=Xe (Nat.sub_le_sub_right (Nat.le_sub_one_of_lt h1) l) (by rw[Nat.sub_right_comm,← Nat.sub_sub];exact Nat.sub_le_sub_right h 1)
theorem F7{l u t m y:Nat}(h:u-l<=m-y)(h1:l<=t)(h2:t<u):u-(t+1)<=m-(y+1):=by rw[← Nat.sub_sub,← Nat.sub_sub];exact Nat.sub_le_sub_right (Xe (Nat.sub_le_sub_left h1 u) h) 1
inductive Bub(γ:Array Nat)(a b i g:Nat):Prop
 | at_ (h:i=a) (e:γ[b]?=some g)
 | mid (j:Nat) (h:i=j+1) (k:a<=j) (l:j<b) (e:γ[j]?=some g)
 | lo (h:i<a) (e:γ[i]?=some g)
 | hi (h:b<i)
theorem nT{γ:Array Nat}{a b i g:Nat}(e:(if i=a then γ[b]? else if a<i/\i<=b then γ[i-1]? else γ[i]?)=some g):Bub γ a b i g:=by
 by_cases h:i=a
 ·rw[if_pos h]at e;exact .at_ h e
 ·rw[if_neg h]at e;by_cases h2:a<i/\i<=b
  ·rw[if_pos h2]at e;obtain⟨j,rfl⟩:=We (Yk (Yn (Wh _) h2.1));exact .mid j rfl (Nat.le_of_lt_succ h2.1) h2.2 e
  ·rw[if_neg h2]at e;by_cases h3:i<a
   ·exact .lo h3 e
   ·exact .hi (Nat.lt_of_not_le fun z=>h2 ⟨Nat.lt_of_le_of_ne (Nat.le_of_not_lt h3) (Ne.symm h),z⟩)
theorem y7{γ:Array Nat}{a b i:Nat}(hab:a<=b)(h:b<i):(if i=a then γ[b]? else if a<i/\i<=b then γ[i-1]? else γ[i]?)=γ[i]?:=by
 rw[if_neg (Yk (Yn hab h)),if_neg fun z=>Nat.not_le_of_lt h z.2]
theorem Ed{γ:Array Nat}{a b i:Nat}(h:i<a):(if i=a then γ[b]? else if a<i/\i<=b then γ[i-1]? else γ[i]?)=γ[i]?:=by
 rw[if_neg (Zg h),if_neg fun z=>Nat.lt_asymm h z.1]
theorem Bv(C:Cm prog w A s k f N c)(R:Rp k f N st γ){lo n ok:Nat}(hn:lo+n<=N)(h1:1<=ok)(hok:ok<=n)(sg:Sg c γ lo (lo+ok))(ow:Ow γ lo (lo+ok))(raw:Raw γ (lo+ok) N)
  {Q:Bool->SortSt->Prop}(q:∀(x:Array Keyed)(γ':Array Nat),Rp k f N (setArr st x) γ'->Sg c γ' lo (lo+n)->Ow γ' lo (lo+n)->Raw γ' (lo+n) N->Out γ γ' lo (lo+n)->Q true (setArr st x)) :
  wpS (model prog w) A E s (binarySort' lo n ok) Q st:=by
 rw[binarySort'_eq]
 refine wpS_bind (wpS_mono (wpS_forRange (I:=fun m r st'=>r=(none,())/\∃x γ',st'=setArr st x/\Rp k f N st' γ'/\Sg c γ' lo (lo+m)/\Ow γ' lo (lo+m)/\Raw γ' (lo+m) N/\Out γ γ' lo (lo+m))
  (Q:=fun r st'=>r=(none,())/\∃x γ',st'=setArr st x/\Rp k f N st' γ'/\Sg c γ' lo (lo+n)/\Ow γ' lo (lo+n)/\Raw γ' (lo+n) N/\Out γ γ' lo (lo+n)) ?step ?fin ?init) ?post)
 case post =>
  rintro r st' ⟨rfl,x,γ',rfl,R',a1,a2,a3,a4⟩;exact wpS_pure (q x γ' R' a1 a2 a3 a4)
 case init =>
  rw[show max ok 1=ok by lia]
  exact⟨rfl,arrOf st,γ,rfl,R,sg,ow,raw,Out.refl _ _ _⟩
 case fin =>
  rintro r st' h;rw[show max (max ok 1) n=n by lia]at h
  exact h
 case step =>
  rintro m r st' hm hmn ⟨rfl,x,γ',rfl,R',a1,a2,a3,a4⟩;have em:γ'[lo+m]?=some (lo+m):=a3 (lo+m) (Va _) (by lia)
  refine wpS_bind (wpS_mono (wpS_forRange (I:=fun y r st''=>st''=setArr st x/\∃l u,r=(none,l,u)/\l<=u/\u<=m/\u-l<=m-y /\
    (∀i g,lo<=i->i<lo+l->γ'[i]?=some g->c (lo+m) g=false)/\(∀i g,lo+u<=i->i<lo+m->γ'[i]?=some g->c (lo+m) g=true))
   (Q:=fun r st''=>st''=setArr st x/\∃l u,r=(none,l,u)/\l<=m /\
    (∀i g,lo<=i->i<lo+l->γ'[i]?=some g->c (lo+m) g=false)/\(∀i g,lo+l<=i->i<lo+m->γ'[i]?=some g->c (lo+m) g=true)) ?istep ?ifin ?iinit) ?ipost)
  case iinit=>exact⟨rfl,0,m,rfl,by lia,by lia,by lia,fun i g p1 p2=>by lia,fun i g p1 p2=>by lia⟩
  case ifin =>
   rintro r st'' ⟨rfl,l,u,rfl,b1,b2,b3,b4,b5⟩;obtain rfl:l=u:=by lia
   exact⟨rfl,l,l,rfl,b2,b4,b5⟩
  case istep =>
   rintro y r st'' _ hy ⟨rfl,l,u,rfl,b1,b2,b3,b4,b5⟩;dsimp only;by_cases hge:l ≥ u
   ·refine eO hge ?_;obtain rfl:l=u:=by lia
    exact wpS_pure ⟨rfl,l,l,rfl,b2,b4,b5⟩
   ·refine dY hge ?_;have hq:l<=(l+u) / 2/\(l+u) / 2<u:=mid (Nat.lt_of_not_le hge);generalize (l+u) / 2=t at hq;obtain⟨q1,q2⟩:=hq;have q3:t-l<=m-(y+1):=F6 b3 q2 q1;have q4:u-(t+1)<=m-(y+1):=F7 b3 q1 q2;obtain⟨g,eg⟩:=iK (γ:=γ') (i:=lo+t) (by rw[R'.size];lia)
    refine wpS_bind (jm C R' em eg ?_);cases hc:c (lo+m) g with
    | true =>
     refine wpS_pure ⟨rfl,l,t,rfl,q1,by lia,q3,b4,fun i g' p1 p2 e=>?_⟩
     by_cases hi:i=lo+t
     ·subst hi;rw[eg]at e;cases e;exact hc
     ·have bf:=a1 _ i g g' (by lia) (by lia) p2 eg e
      rcases C.neg _ g' _ hc with z|z
      ·exact z
      ·rw[C.le bf]at z;cases z
    | false =>
     refine wpS_pure ⟨rfl,t+1,u,rfl,q2,b2,q4,fun i g' p1 p2 e=>?_,b5⟩;by_cases hi:i=lo+t
     ·subst hi;rw[eg]at e;cases e;exact hc
     ·have bf:=a1 i _ g' g p1 (by lia) (by lia) e eg
      exact C.letr (C.le bf) hc
  case ipost =>
   rintro r st'' ⟨rfl,l,u,rfl,b2,b4,b5⟩;show wpS _ _ _ _ (do moveDown' (lo+m) (lo+l);pure (ForInStep.yield (none,()))) _ _
   rw[moveDown'_eq];have hs:lo+m<γ'.size:=by rw[R'.size];lia
   have gb:=getElem?_bubble hs (lo+m-(lo+l)) (Nat.sub_le _ _);rw[Nat.sub_sub_self (Yj b2 lo)]at gb;refine wpS_bind (wpS_modify (wpS_pure ⟨rfl,bubble x (lo+m) (lo+m-(lo+l)),bubble γ' (lo+m) (lo+m-(lo+l)),rfl,R'.put (bubble_perm _ _ _) ?_,?_,?_,?_,?_⟩))
   ·rw[R'.arr,uk]
   ·intro i j g h p1 p2 p3 e1 e2;rw[gb]at e1 e2;cases nT e1 with
    | at_ y e1 =>
     rw[em]at e1;cases e1;cases nT e2 with
     | at_ z e2=>lia
     | mid j' z z1 z2 e2=>exact .inl (b5 _ h z1 z2 e2)
     | lo z e2=>lia
     | hi z=>lia
    | mid i' y y1 y2 e1 =>
     cases nT e2 with
     | at_ z e2=>lia
     | mid j' z z1 z2 e2=>exact a1 _ _ g h (Xe (Vj _ _) y1) (by lia) z2 e1 e2
     | lo z e2=>lia
     | hi z=>lia
    | lo y e1 =>
     have ym:i<lo+m:=Zd y (Yj b2 lo);cases nT e2 with
     | at_ z e2 =>
      rw[em]at e2;cases e2;exact .inr ⟨b4 i g p1 y e1,(a2 i g p1 ym e1).2⟩
     | mid j' z z1 z2 e2=>exact a1 i _ g h p1 (Zd y z1) z2 e1 e2
     | lo z e2=>exact a1 i j g h p1 p2 (Zd z (Yj b2 lo)) e1 e2
     | hi z=>lia
    | hi y=>lia
   ·intro i g p1 p2 e;rw[gb]at e;cases nT e with
    | at_ z e=>rw[em]at e;cases e;exact⟨Vj _ _,Qm _⟩
    | mid j z z1 z2 e=>exact⟨(a2 _ g (Xe (Vj _ _) z1) z2 e).1,Nat.lt_succ_of_lt (a2 _ g (Xe (Vj _ _) z1) z2 e).2⟩
    | lo z e =>
     have ym:i<lo+m:=Zd z (Yj b2 lo);exact⟨(a2 i g p1 ym e).1,Nat.lt_succ_of_lt (a2 i g p1 ym e).2⟩
    | hi z=>lia
   ·intro i p1 p2;rw[gb,y7 (Yj b2 lo) p1];exact a3 i (Zk p1) p2
   ·intro i p;rw[gb];rcases p with p|p
    ·rw[Ed (Zd p (Vj _ _))];exact a4 i (.inl p)
    ·rw[y7 (Yj b2 lo) p];exact a4 i (.inr (Zk p))
end
end TS
namespace TS
open PySem PyProof.Rows
section
variable {prog:Program}{w:World}{A:Around}{E:Value->Shared->Prop}{s:Shared}{k:SortKind}{f:Nat->Keyed}{N:Nat}{c:Nat->Nat->Bool}{st:SortSt}{γ:Array Nat}
theorem Sg.more(C:Cm prog w A s k f N c){lo n g h:Nat}(sg:Sg c γ lo n)(h1:lo<n)(e:γ[n-1]?=some g)(e':γ[n]?=some h)(b:Bf c g h):Sg c γ lo (n+1):=by
 intro i j g' h' p1 p2 p3 e1 e2;by_cases hj:j<n
 ·exact sg i j g' h' p1 p2 hj e1 e2
 ·obtain rfl:j=n:=by lia
  rw[e']at e2;cases e2;by_cases hi:i=j-1
  ·subst hi;rw[e]at e1;cases e1;exact b
  ·exact C.trans (sg i (j-1) g' g p1 (by lia) (by lia) e1 e) b
theorem sy(C:Cm prog w A s k f N c){lo x h:Nat}(sg:Sg c γ lo (lo+x))(ow:Ow γ lo (lo+x))(raw:Raw γ (lo+x) N)(h1:1<=x)(hx:lo+x<N)(e:γ[lo+x-1]?=some h)(hc:c (lo+x) h=false) :
  Sg c γ lo (lo+(x+1))/\Ow γ lo (lo+(x+1))/\Raw γ (lo+(x+1)) N:=by
 have en:=raw (lo+x) (Va _) hx;refine⟨sg.more C (by lia) e en (.inr ⟨hc,(ow _ h (by lia) (by lia) e).2⟩),fun i g p1 p2 e1=>?_,fun i p1 p2=>raw i (by lia) p2⟩
 by_cases hi:i<lo+x
 ·have:=ow i g p1 hi e1;lia
 ·obtain rfl:i=lo+x:=by lia
  rw[en]at e1;cases e1;lia
structure Fl(c:Nat->Nat->Bool)(γ:Array Nat)(lo m n:Nat):Prop where
 le:lo<=m
 lt:m<n
 fall:∀i j g h,lo<=i->i<j->j<m->γ[i]?=some g->γ[j]?=some h->Bf c h g
 cross:∀i j g h,lo<=i->i<m->m<=j->j<n->γ[i]?=some g->γ[j]?=some h->c h g=true
 same:∀i j g h,m<=i->i<n->m<=j->j<n->γ[i]?=some g->γ[j]?=some h->c g h=false
 raw:Raw γ m n
 own:Ow γ lo n
noncomputable def Fa(c:Nat->Nat->Bool)(γ:Array Nat)(lo n:Nat):Prop:=∀i j g h,lo<=i->i<j->j<n->γ[i]?=some g->γ[j]?=some h->Bf c h g
theorem jT{a n i:Nat}(hn:n<=γ.size)(h1:a<=i)(h2:i<n):∃i',a<=i'/\i'<n/\i+i'+1=a+n/\(mirror γ a n ((n-a) / 2))[i]?=γ[i']? :=
 ⟨a+n-1-i,by lia,by lia,by lia,by rw[getElem?_mirror_all hn,if_pos ⟨h1,h2⟩]⟩
theorem gU{a n i:Nat}(hn:n<=γ.size)(h:i<a∨n<=i):(mirror γ a n ((n-a) / 2))[i]?=γ[i]?:=by
 rw[getElem?_mirror_all hn,if_neg fun z=>h.elim (fun q=>Nat.not_le_of_lt q z.1) fun q=>Nat.not_le_of_lt z.2 q]
theorem wW{lo n:Nat}(fa:Fa c γ lo n)(hn:n<=γ.size):Sg c (mirror γ lo n ((n-lo) / 2)) lo n:=by
 intro i j g h p1 p2 p3 e1 e2;obtain⟨i',a1,a2,a3,a4⟩:=jT (γ:=γ) hn p1 (Nat.lt_trans p2 p3);obtain⟨j',b1,b2,b3,b4⟩:=jT (γ:=γ) hn (Xe p1 (Zk p2)) p3;exact fa j' i' h g b1 (by lia) a2 (b4 ▸ e2) (a4 ▸ e1)
theorem jn{lo a n:Nat}(ow:Ow γ lo n)(ha:lo<=a)(hn:n<=γ.size):Ow (mirror γ a n ((n-a) / 2)) lo n:=by
 intro i g p1 p2 e;by_cases hi:a<=i
 ·obtain⟨i',a1,a2,a3,a4⟩:=jT (γ:=γ) hn hi p2;exact ow i' g (Xe ha a1) a2 (a4 ▸ e)
 ·rw[gU hn (.inl (Nat.lt_of_not_le hi))]at e;exact ow i g p1 p2 e
theorem fE{a n m:Nat}(raw:Raw γ n m)(hn:n<=γ.size):Raw (mirror γ a n ((n-a) / 2)) n m:=by
 intro i p1 p2;rw[gU hn (.inr p1)];exact raw i p1 p2
theorem gW{lo a n:Nat}{γ':Array Nat}(o:Out γ γ' lo n)(ha:lo<=a)(hn:n<=γ'.size):Out γ (mirror γ' a n ((n-a) / 2)) lo n:=by
 intro i p;rw[gU hn (p.imp (fun q=>Zd q ha) id)];exact o i p
theorem Out.wide{lo n n':Nat}{γ':Array Nat}(o:Out γ γ' lo n)(h:n<=n'):Out γ γ' lo n':=fun i p=>o i (by lia)
theorem Fl.turn{lo m n:Nat}(F:Fl c γ lo m n)(hn:n<=γ.size):Fa c (mirror γ m n ((n-m) / 2)) lo n:=by
 intro i j g h p1 p2 p3 e1 e2;by_cases hj:j<m
 ·rw[gU hn (.inl (Nat.lt_trans p2 hj))]at e1;rw[gU hn (.inl hj)]at e2;exact F.fall i j g h p1 p2 hj e1 e2
 obtain⟨j',b1,b2,b3,b4⟩:=jT (γ:=γ) hn (Nat.le_of_not_lt hj) p3;rw[b4]at e2;by_cases hi:i<m
 ·rw[gU hn (.inl hi)]at e1;exact .inl (F.cross i j' g h p1 hi b1 b2 e1 e2)
 ·obtain⟨i',a1,a2,a3,a4⟩:=jT (γ:=γ) hn (Nat.le_of_not_lt hi) (Nat.lt_trans p2 p3);rw[a4]at e1;refine .inr ⟨F.same i' j' g h a1 a2 b1 b2 e1 e2,?_⟩;rw[F.raw i' a1 a2]at e1;rw[F.raw j' b1 b2]at e2;cases e1;cases e2;lia
theorem Fl.fa1{lo m:Nat}(F:Fl c γ lo m (m+1)):Fa c γ lo (m+1):=by
 intro i j g h p1 p2 p3 e1 e2;by_cases hj:j<m
 ·exact F.fall i j g h p1 p2 hj e1 e2
 ·exact .inl (F.cross i j g h p1 (by lia) (by lia) p3 e1 e2)
theorem Fa.next(C:Cm prog w A s k f N c){lo n g:Nat}(fa:Fa c γ lo n)(ow:Ow γ lo n)(raw:Raw γ n N)(hl:lo<n)(hn:n<N)(z:∀i g,lo<=i->i<n->γ[i]?=some g->c n g=true):Fl c γ lo n (n+1):=by
 have en:=raw n (Va _) hn;refine⟨by lia,by lia,fa,fun i j g h p1 p2 p3 p4 e1 e2=>?_,fun i j g h p1 p2 p3 p4 e1 e2=>?_,fun i p1 p2=>raw i p1 (by lia),fun i g p1 p2 e=>?_⟩
 ·obtain rfl:j=n:=by lia
  rw[en]at e2;cases e2;exact z i g p1 p2 e1
 ·obtain rfl:i=n:=by lia
  obtain rfl:j=i:=by lia
  rw[en]at e1 e2;cases e1;cases e2;exact C.irr _
 ·by_cases hi:i<n
  ·have:=ow i g p1 hi e;lia
  ·obtain rfl:i=n:=by lia
   rw[en]at e;cases e;lia
theorem Fl.more(C:Cm prog w A s k f N c){lo m n:Nat}(F:Fl c γ lo m n)(raw:Raw γ n N)(hn:n<N)(z1:c n (n-1)=false)(z2:c (n-1) n=false):Fl c γ lo m (n+1):=by
 have en:=raw n (Va _) hn;have ep:=F.raw (n-1) (by have:=F.lt;lia) (by have:=F.lt;lia)
 have hlt:=F.lt;have hle:=F.le;refine⟨hle,by lia,F.fall,fun i j g h p1 p2 p3 p4 e1 e2=>?_,fun i j g h p1 p2 p3 p4 e1 e2=>?_,fun i p1 p2=>?_,fun i g p1 p2 e=>?_⟩
 ·by_cases hj:j<n
  ·exact F.cross i j g h p1 p2 p3 hj e1 e2
  ·obtain rfl:j=n:=by lia
   rw[en]at e2;cases e2;rcases C.neg _ j _ (F.cross i (j-1) g (j-1) p1 p2 (by lia) (by lia) e1 ep) with q|q
   ·rw[z2]at q;cases q
   ·exact q
 ·have key:∀a g,m<=a->a<n+1->γ[a]?=some g->c g (n-1)=false/\c (n-1) g=false:=by
   intro a g q1 q2 e;by_cases ha:a<n
   ·exact⟨F.same a (n-1) g (n-1) q1 ha (by lia) (by lia) e ep,F.same (n-1) a (n-1) g (by lia) (by lia) q1 ha ep e⟩
   ·obtain rfl:a=n:=by lia
    rw[en]at e;cases e;exact⟨z1,z2⟩
  exact C.letr (key j h p3 p4 e2).2 (key i g p1 p2 e1).1
 ·by_cases hi:i<n
  ·exact F.raw i p1 hi
  ·exact raw i (by lia) (by lia)
 ·by_cases hi:i<n
  ·have:=F.own i g p1 hi e;lia
  ·obtain rfl:i=n:=by lia
   rw[en]at e;cases e;lia
theorem Fl.below(C:Cm prog w A s k f N c){lo m n x:Nat}(F:Fl c γ lo m n)(z:c x (n-1)=true):∀i g,lo<=i->i<n->γ[i]?=some g->c x g=true:=by
 have hlt:=F.lt;have ep:=F.raw (n-1) (by lia) (by lia)
 intro i g p1 p2 e;rcases C.neg x g _ z with q|q
 ·exact q
 ·by_cases hi:i<m
  ·exact absurd (F.cross i (n-1) g (n-1) p1 hi (by lia) (by lia) e ep) (by rw[C.asy q];exact Bool.noConfusion)
  ·rw[F.same i (n - 1) g (n - 1) (by lia) p2 (by lia) (by lia) e ep]at q;cases q
noncomputable def Rn(k:SortKind)(f:Nat->Keyed)(N:Nat)(c:Nat->Nat->Bool)(lo:Nat)(st:SortSt)(γ:Array Nat)(n:Nat)(st':SortSt):Prop :=
 ∃x γ',st'=setArr st x/\Rp k f N st' γ'/\Sg c γ' lo (lo+n)/\Ow γ' lo (lo+n)/\Raw γ' (lo+n) N/\Out γ γ' lo (lo+n)
noncomputable def sA(lo n nrem:Nat):StateT SortSt Sem (Option Nat):=do
 reverseSlice' lo (lo+n)
 let r ← forIn [n:nrem] ((none,n):Option (Option Nat)×Nat) fun _ r=>do
  match ← ltAt' (lo+r.2) (lo+r.2-1) with
  | some smaller=>if smaller=true then pure (ForInStep.done (none,r.2)) else pure (ForInStep.yield (none,r.2+1))
  | _=>pure (ForInStep.done (some none,r.2))
 match r.1 with
 | some z=>pure z
 | none=>pure (some r.2)
noncomputable def nU(lo x nrem:Nat):StateT SortSt Sem (Option Nat):=do
 liftM (rule "list.sort.descending-run")
 let r ← forIn [x+1:nrem] ((none,x+1,0):Option (Option Nat)×Nat×Nat) fun _ r=>do
  match ← ltAt' (lo+r.2.1) (lo+r.2.1-1) with
  | some smaller =>
   if smaller=true then
    if r.2.2 > 0 then do
     reverseSlice' (lo+r.2.1-(r.2.2+1)) (lo+r.2.1)
     pure (ForInStep.yield (none,r.2.1+1,0))
    else pure (ForInStep.yield (none,r.2.1+1,0))
   else do
    match ← ltAt' (lo+r.2.1-1) (lo+r.2.1) with
    | some larger=>if larger=true then pure (ForInStep.done (none,r.2.1,r.2.2)) else pure (ForInStep.yield (none,r.2.1+1,r.2.2+1))
    | _=>pure (ForInStep.done (some none,r.2.1,r.2.2))
  | _=>pure (ForInStep.done (some none,r.2.1,r.2.2))
 match r.1 with
 | some z=>pure z
 | none =>
  if r.2.2 > 0 then do
   reverseSlice' (lo+r.2.1-(r.2.2+1)) (lo+r.2.1)
   sA lo r.2.1 nrem
  else sA lo r.2.1 nrem
theorem qD{i j:Nat}{Q:Unit->SortSt->Prop}(h:Q () (setArr st (mirror (arrOf st) i j ((j-i) / 2)))):wpS (model prog w) A E s (reverseSlice' i j) Q st:=by
 rw[reverseSlice'_eq];exact wpS_modify h
theorem vx(C:Cm prog w A s k f N c){st₀:SortSt}{γ₀:Array Nat}{lo n:Nat}{y:Array Keyed}(R:Rp k f N (setArr st₀ y) γ)(h1:1<=n)(hn:lo+n<=N)(fa:Fa c γ lo (lo+n))(ow:Ow γ lo (lo+n))(raw:Raw γ (lo+n) N)(out:Out γ₀ γ lo (lo+n))
  {Q:Option Nat->SortSt->Prop}(q:∀n st',1<=n->lo+n<=N->Rn k f N c lo st₀ γ₀ n st'->Q (some n) st'):wpS (model prog w) A E s (sA lo n (N-lo)) Q (setArr st₀ y):=by
 have hs:lo+n<=γ.size:=by rw[R.size];exact hn
 refine wpS_bind (qD ?_);have R1:Rp k f N (setArr st₀ (mirror y lo (lo+n) ((lo+n-lo) / 2))) (mirror γ lo (lo+n) ((lo+n-lo) / 2)):=R.put (mirror_perm _ _ _ _) (by rw[show y=γ.map f from R.arr,gR])
 have sg:=wW fa hs;have ow':=jn ow (Va lo) hs;have raw':=fE (a:=lo) raw hs;have out':=gW out (Va lo) hs;generalize mirror γ lo (lo+n) ((lo+n-lo) / 2)=δ at R1 sg ow' raw' out';generalize mirror y lo (lo+n) ((lo+n-lo) / 2)=y' at R1
 refine wpS_bind (wpS_mono (wpS_forRange (I:=fun x r st'=>st'=setArr st₀ y'/\r=(none,x)/\n<=x/\lo+x<=N/\Sg c δ lo (lo+x)/\Ow δ lo (lo+x)/\Raw δ (lo+x) N)
  (Q:=fun r st'=>st'=setArr st₀ y'/\∃x,r=(none,x)/\n<=x/\lo+x<=N/\Sg c δ lo (lo+x)/\Ow δ lo (lo+x)/\Raw δ (lo+x) N) ?step ?fin ?init) ?post)
 case init=>exact⟨rfl,rfl,Va _,hn,sg,ow',raw'⟩
 case fin =>
  rintro r st' ⟨rfl,rfl,b1,b2,b3,b4,b5⟩;exact⟨rfl,_,rfl,b1,b2,b3,b4,b5⟩
 case step =>
  rintro x r st' p1 p2 ⟨rfl,rfl,b1,b2,b3,b4,b5⟩;dsimp only;have en:=b5 (lo+x) (by lia) (by lia)
  obtain⟨g,ep⟩:=iK (γ:=δ) (i:=lo+x-1) (by rw[R1.size];lia)
  refine wpS_bind (jm C R1 en ep ?_);cases hc:c (lo+x) g with
  | true=>exact wpS_pure ⟨rfl,x,rfl,b1,b2,b3,b4,b5⟩
  | false =>
   obtain⟨a1,a2,a3⟩:=sy C b3 b4 b5 (by lia) (by lia) ep hc
   exact wpS_pure ⟨rfl,rfl,by lia,by lia,a1,a2,a3⟩
 case post =>
  rintro r st' ⟨rfl,x,rfl,b1,b2,b3,b4,b5⟩;exact wpS_pure (q x _ (by lia) b2 ⟨y',δ,rfl,R1,b3,b4,b5,out'.wide (by lia)⟩)
set_option tactic.hygienic true in
theorem vy(C:Cm prog w A s k f N c){st₀:SortSt}{γ₀:Array Nat}{lo x:Nat}{y:Array Keyed}(R:Rp k f N (setArr st₀ y) γ)(hx:lo+x<N)(F:Fl c γ lo (lo+x) (lo+x+1))(raw:Raw γ (lo+x+1) N)(out:Out γ₀ γ lo (lo+x+1))
  {Q:Option Nat->SortSt->Prop}(q:∀n st',1<=n->lo+n<=N->Rn k f N c lo st₀ γ₀ n st'->Q (some n) st'):wpS (model prog w) A E s (nU lo x (N-lo)) Q (setArr st₀ y):=by
 refine wpS_bind (wpS_lift (wpAny_rule ⟨rfl,?_⟩))
 refine wpS_bind (wpS_mono (wpS_forRange (I:=fun n r st'=>∃e y' δ,r=(none,n,e)/\st'=setArr st₀ y'/\Rp k f N (setArr st₀ y') δ/\e+1<=n/\lo+n<=N/\Fl c δ lo (lo+n-(e+1)) (lo+n)/\Raw δ (lo+n) N/\Out γ₀ δ lo (lo+n))
  (Q:=fun r st'=>∃n e y' δ,r=(none,n,e)/\st'=setArr st₀ y'/\Rp k f N (setArr st₀ y') δ/\e+1<=n/\lo+n<=N/\Fl c δ lo (lo+n-(e+1)) (lo+n)/\Raw δ (lo+n) N/\Out γ₀ δ lo (lo+n)) ?step ?fin ?init) ?post)
 case init=>exact⟨0,y,γ,rfl,rfl,R,by lia,by lia,F,raw,out⟩
 case fin =>
  rintro r st' ⟨e,y',δ,h⟩;exact⟨_,e,y',δ,h⟩
 case step =>
  rintro n r st' p1 p2 ⟨e,y',δ,rfl,rfl,R1,b1,b2,F1,raw1,out1⟩;dsimp only;have en:=raw1 (lo+n) (Va _) (by lia)
  have s1:1<=lo+n:=by lia
  have ep:=F1.raw (lo+n-1) (Nat.sub_le_sub_left (Nat.succ_le_succ (Wh e)) _) (Nat.sub_lt s1 Nat.one_pos);have hs:lo+n<=δ.size:=by rw[R1.size];exact b2
  refine wpS_bind (jm C R1 en ep ?_);cases hc:c (lo+n) (lo+n-1) with
  | true =>
   dsimp only;refine eO rfl ?_;have bl:=F1.below C hc;by_cases he:e > 0
   ·refine eO he ?_;refine wpS_bind (qD (wpS_pure ?_));have fa:=F1.turn hs;have ow':=jn F1.own F1.le hs;have raw':=fE (a:=lo+n-(e+1)) raw1 hs;have out':=gW out1 F1.le hs;refine⟨0,_,mirror δ (lo+n-(e+1)) (lo+n) ((lo+n-(lo+n-(e+1))) / 2),rfl,rfl,R1.put (mirror_perm _ _ _ _) (by rw[show arrOf (setArr st₀ y')=δ.map f from R1.arr,gR]),by lia,by lia,?_,fun i q1 q2=>raw' i (by lia) q2,out'.wide (by lia)⟩
    refine fa.next C (g:=0) ow' raw' (by lia) (by lia) fun i g q1 q2 e1=>?_
    by_cases hi:lo+n-(e+1)<=i
    ·obtain⟨i',a1,a2,_,a4⟩:=jT (γ:=δ) hs hi q2;exact bl i' g (Xe F1.le a1) a2 (a4 ▸ e1)
    ·rw[gU hs (.inl (Nat.lt_of_not_le hi))]at e1;exact bl i g q1 q2 e1
   ·obtain rfl:e=0:=by lia
    refine dY he ?_;have F2:Fl c δ lo (lo+n-1) (lo+n-1+1):=by rw[Nat.sub_add_cancel s1];exact F1
    have fa:=F2.fa1;rw[Nat.sub_add_cancel s1]at fa;exact wpS_pure ⟨0,y',δ,rfl,rfl,R1,by lia,by lia,fa.next C (g:=0) F1.own raw1 (by lia) (by lia) bl,fun i q1 q2=>raw1 i (by lia) q2,out1.wide (by lia)⟩
  | false =>
   dsimp only;refine dY Bool.noConfusion ?_;refine wpS_bind (jm C R1 ep en ?_);cases hc2:c (lo+n-1) (lo+n) with
   | true=>exact wpS_pure ⟨n,e,y',δ,rfl,rfl,R1,b1,b2,F1,raw1,out1⟩
   | false =>
    refine wpS_pure ⟨e+1,y',δ,rfl,rfl,R1,by lia,by lia,?_,fun i q1 q2=>raw1 i (by lia) q2,out1.wide (by lia)⟩
    rw[show lo+(n+1) - (e+1+1)=lo+n - (e+1) from Nat.succ_sub_succ _ _];exact F1.more C raw1 (by lia) hc hc2
 case post =>
  rintro r st' ⟨n,e,y',δ,rfl,rfl,R1,b1,b2,F1,raw1,out1⟩;have hs:lo+n<=δ.size:=by rw[R1.size];exact b2
  have s1:1<=lo+n:=by lia
  dsimp only;by_cases he:e > 0
  ·refine eO he ?_;refine wpS_bind (qD ?_);exact vx C (γ:=mirror δ (lo+n-(e+1)) (lo+n) ((lo+n-(lo+n-(e+1))) / 2)) (R1.put (mirror_perm _ _ _ _) (by rw[show arrOf (setArr st₀ y')=δ.map f from R1.arr,gR])) (by lia) b2 (F1.turn hs) (jn F1.own F1.le hs) (fE (a:=lo+n-(e+1)) raw1 hs) (gW out1 F1.le hs) q
  ·obtain rfl:e=0:=by lia
   refine dY he ?_;have F2:Fl c δ lo (lo+n-1) (lo+n-1+1):=by rw[Nat.sub_add_cancel s1];exact F1
   have fa:=F2.fa1;rw[Nat.sub_add_cancel s1]at fa;exact vx C R1 (by lia) b2 fa F1.own raw1 out1 q
set_option tactic.hygienic true in
theorem Ee(C:Cm prog w A s k f N c)(R:Rp k f N st γ){lo:Nat}(hl:lo<N)(raw:Raw γ lo N)
  {Q:Option Nat->SortSt->Prop}(q:∀n st',1<=n->lo+n<=N->Rn k f N c lo st γ n st'->Q (some n) st'):wpS (model prog w) A E s (countRun' lo (N-lo)) Q st:=by
 rw[countRun'_eq];have sg1:Sg c γ lo (lo+1):=fun i j g h p1 p2 p3=>by lia
 have ow1:Ow γ lo (lo+1):=fun i g p1 p2 e=>by
  obtain rfl:i=lo:=by lia
  rw[raw i (Va _) hl]at e;cases e;lia
 refine wpS_bind (wpS_mono (wpS_forRange (I:=fun x r st'=>st'=st/\r=(none,x)/\1<=x/\lo+x<=N/\Sg c γ lo (lo+x)/\Ow γ lo (lo+x)/\∀i g h,lo<=i->i+1<lo+x->γ[i]?=some g->γ[i+1]?=some h->c h g=false)
  (Q:=fun r st'=>st'=st/\∃x,r=(none,x)/\1<=x/\lo+x<=N/\Sg c γ lo (lo+x)/\Ow γ lo (lo+x)/\(lo+x=N∨c (lo+x) (lo+x-1)=true)) ?step ?fin ?init) ?post)
 case init=>exact⟨rfl,rfl,by lia,by lia,sg1,ow1,fun i g h p1 p2=>by lia⟩
 case fin =>
  rintro r st' ⟨rfl,rfl,b1,b2,b3,b4,b5⟩;exact⟨rfl,_,rfl,b1,b2,b3,b4,.inl (by lia)⟩
 case step =>
  rintro x r st' p1 p2 ⟨rfl,rfl,b1,b2,b3,b4,b5⟩;dsimp only;have en:=raw (lo+x) (by lia) (by lia)
  have ep:=raw (lo+x-1) (by lia) (by lia)
  refine wpS_bind (jm C R en ep ?_);cases hc:c (lo+x) (lo+x-1) with
  | true=>exact wpS_pure ⟨rfl,x,rfl,b1,b2,b3,b4,.inr hc⟩
  | false =>
   obtain⟨a1,a2,_⟩:=sy C b3 b4 (fun i q1 q2=>raw i (by lia) q2) b1 (by lia) ep hc
   refine wpS_pure ⟨rfl,rfl,by lia,by lia,a1,a2,fun i g h q1 q2 e1 e2=>?_⟩
   rw[raw i q1 (by lia)]at e1
   rw[raw (i+1) (by lia) (by lia)]at e2
   cases e1;cases e2;by_cases hi:i+1<lo+x
   ·exact b5 i i (i+1) q1 hi (raw _ q1 (by lia)) (raw _ (by lia) (by lia))
   ·obtain rfl:i=lo+x-1:=by lia
    rw[show lo+x - 1+1=lo+x by lia];exact hc
 case post =>
  rintro r st' ⟨rfl,x,rfl,b1,b2,b3,b4,b6⟩;dsimp only;by_cases hx:lo+x=N
  ·refine eO (by simp;lia) ?_
   exact wpS_pure (q x _ b1 b2 ⟨_,γ,rfl,R,b3,b4,fun i q1 q2=>raw i (by lia) q2,Out.refl _ _ _⟩)
  ·refine dY (by simp;lia) ?_
   have hc:c (lo+x) (lo+x-1)=true:=b6.resolve_left hx;have hs:lo+x<=γ.size:=by rw[R.size];exact b2
   have raw':Raw γ (lo+x) N:=fun i q1 q2=>raw i (by lia) q2
   by_cases h1:x > 1
   ·refine eO h1 ?_;refine wpS_bind (jm C R (raw lo (Va _) hl) (raw (lo+x-1) (by lia) (by lia)) ?_)
    cases hr:c lo (lo+x-1) with
    | true=>exact wpS_pure (q x _ b1 b2 ⟨_,γ,rfl,R,b3,b4,raw',Out.refl _ _ _⟩)
    | false =>
     dsimp only;refine dY Bool.noConfusion ?_;have le:∀a b,lo<=a->a<lo+x->lo<=b->b<lo+x->a<=b->c b a=false:=fun a b p1 p2 p3 p4 p5=>by
      by_cases ab:a=b
      ·subst ab;exact C.irr _
      ·exact C.le (b3 a b a b p1 (by lia) p4 (raw a p1 (by lia)) (raw b p3 (by lia)))
     have al:∀a b,lo<=a->a<lo+x->lo<=b->b<lo+x->c a b=false:=fun a b p1 p2 p3 p4=>by
      by_cases ab:b<=a
      ·exact le b a p3 p4 p1 p2 ab
      ·cases hab:c a b with
       | false=>rfl
       | true =>
        rcases C.neg a lo b hab with z|z
        ·rw[le lo a (Va _) (by lia) p1 p2 p1]at z;exact z.symm
        ·rcases C.neg lo (lo+x-1) b z with z|z
         ·rw[hr]at z;exact z.symm
         ·rw[le b (lo+x - 1) p3 p4 (by lia) (by lia) (by lia)]at z;exact z.symm
     have F0:Fl c γ lo lo (lo+x):=⟨Va _,by lia,fun i j g h p1 p2 p3=>by lia,fun i j g h p1 p2=>by lia,fun i j g h p1 p2 p3 p4 e1 e2=>by
      rw[raw i p1 (by lia)]at e1
      rw[raw j p3 (by lia)]at e2
      cases e1;cases e2
      exact al i j p1 p2 p3 p4,fun i p1 p2=>raw i p1 (by lia),b4⟩
     refine wpS_bind (qD ?_);refine(show ∀{m:StateT SortSt Sem (Option Nat)}{t:SortSt},m=nU lo x (N-lo)->wpS (model prog w) A E s (nU lo x (N-lo)) Q t->wpS (model prog w) A E s m Q t from fun e h=>e ▸ h) ?_
      (vy C (st₀:=st') (γ₀:=γ) (γ:=mirror γ lo (lo+x) ((lo+x-lo) / 2)) (R.put (mirror_perm _ _ _ _) (by rw[R.arr,gR])) (by lia)
       ((F0.turn hs).next C (g:=0) (jn b4 (Va _) hs) (fE (a:=lo) raw' hs) (by lia) (by lia) fun i g p1 p2 e=>?_) (fun i q1 q2=>fE (a:=lo) raw' hs i (by lia) q2) ((gW (Out.refl γ lo (lo+x)) (Va _) hs).wide (by lia)) q)
     ·unfold nU sA;congr 1;funext _v;congr 1;funext z;obtain⟨z1,z2,z3⟩:=z;cases z1 with
      | some z1=>rfl
      | none =>
       dsimp only;split
       ·congr 1;funext _y;congr 1;funext _u;congr 1;funext z;obtain⟨z1,z2⟩:=z;cases z1<;>rfl
       ·congr 1;funext _u;congr 1;funext z;obtain⟨z1,z2⟩:=z;cases z1<;>rfl
     ·obtain⟨i',a1,a2,_,a4⟩:=jT (γ:=γ) hs p1 p2;exact F0.below C hc i' g a1 a2 (a4 ▸ e)
   ·obtain rfl:x=1:=by lia
    refine dY h1 ?_;have fa:Fa c γ lo (lo+1):=fun i j g h p1 p2 p3=>by lia
    refine(show ∀{m:StateT SortSt Sem (Option Nat)},m=nU lo 1 (N-lo)->wpS (model prog w) A E s (nU lo 1 (N-lo)) Q st'->wpS (model prog w) A E s m Q st' from fun e h=>e ▸ h) ?_ (vy C (st₀:=st') (y:=arrOf st') (γ₀:=γ) (γ:=γ) R (by lia) (fa.next C (g:=0) b4 raw' (by lia) (by lia) fun i g p1 p2 e=>?_) (fun i q1 q2=>raw i (by lia) q2) (Out.refl _ _ _) q)
    ·unfold nU sA;congr 1;funext _v;congr 1;funext z;obtain⟨z1,z2,z3⟩:=z;cases z1 with
     | some z1=>rfl
     | none =>
      dsimp only;split
      ·congr 1;funext _y;congr 1;funext _u;congr 1;funext z;obtain⟨z1,z2⟩:=z;cases z1<;>rfl
      ·congr 1;funext _u;congr 1;funext z;obtain⟨z1,z2⟩:=z;cases z1<;>rfl
    obtain rfl:i=lo:=by lia
    rw[raw i (Va _) hl]at e;cases e;exact hc
end
end TS
namespace TS
open PySem PyProof.Rows
noncomputable def By(left:Bool)(key:Keyed)(arr:Array Keyed)(base i:Nat):StateT SortSt Sem (Option Bool):=do
 let p ← elem' arr (base+i)
 if left then lt' p key else return (← lt' key p).map (!·)
noncomputable def gal:Bool->Keyed->Array Keyed->Nat->Nat->Nat->StateT SortSt Sem (Option Nat):=sortPriv% PySem.Builtin.gallop
section
variable {prog:Program}{w:World}{A:Around}{E:Value->Shared->Prop}{s:Shared}{k:SortKind}{f:Nat->Keyed}{N:Nat}{c:Nat->Nat->Bool}{st:SortSt}{δ:Array Nat}
noncomputable def bb(c:Nat->Nat->Bool)(left:Bool)(t g:Nat):Bool:=if left then c g t else !c t g
theorem vz(C:Cm prog w A s k f N c)(hk:kindOf st=k){left:Bool}{t base i g:Nat}(ht:t<N)(hg:g<N)(e:δ[base+i]?=some g){Q:Option Bool->SortSt->Prop}(q:Q (some (bb c left t g)) st) :
  wpS (model prog w) A E s (By left (f t) (δ.map f) base i) Q st:=by
 unfold By;rw[elem'_eq,Ym,e];refine wpS_bind (wpS_pure ?_);cases left with
 | true=>exact sx C hk hg ht q
 | false=>exact wpS_bind (sx C hk ht hg (wpS_pure q))
noncomputable def y8(left:Bool)(key:Keyed)(arr:Array Keyed)(base n l h:Nat):StateT SortSt Sem (Option Nat):=do
 let r ← forIn [0:n] ((none,l,h):Option (Option Nat)×Nat×Nat) fun _ r=>do
  if r.2.1 ≥ r.2.2 then pure (ForInStep.done (none,r.2.1,r.2.2)) else do
   match ← By left key arr base (r.2.1+(r.2.2-r.2.1) / 2) with
   | some mo=>if mo=true then pure (ForInStep.yield (none,r.2.1+(r.2.2-r.2.1) / 2+1,r.2.2)) else pure (ForInStep.yield (none,r.2.1,r.2.1+(r.2.2-r.2.1) / 2))
   | _=>pure (ForInStep.done (some none,r.2.1,r.2.2))
 match r.1 with
 | some z=>pure z
 | none=>pure (some r.2.2)
noncomputable def Tr(c:Nat->Nat->Bool)(left:Bool)(t base:Nat)(δ:Array Nat)(m:Nat):Prop:=∀(i g:Nat),base<=i->i<base+m->δ[i]?=some g->bb c left t g=true
noncomputable def Fs(c:Nat->Nat->Bool)(left:Bool)(t base n:Nat)(δ:Array Nat)(m:Nat):Prop:=∀(i g:Nat),base+m<=i->i<base+n->δ[i]?=some g->bb c left t g=false
noncomputable def Mo(c:Nat->Nat->Bool)(left:Bool)(t base n:Nat)(δ:Array Nat):Prop:=∀(i j g h:Nat),base<=i->i<j->j<base+n->δ[i]?=some g->δ[j]?=some h->bb c left t h=true->bb c left t g=true
theorem Mo.tr{left:Bool}{t base n m g:Nat}(mo:Mo c left t base n δ)(hm:m<n)(e:δ[base+m]?=some g)(h:bb c left t g=true):Tr c left t base δ (m+1):=by
 intro i g' p1 p2 e';by_cases hi:i=base+m
 ·subst hi;rw[e]at e';cases e';exact h
 ·exact mo i (base+m) g' g p1 (by lia) (by lia) e' e h
theorem Mo.fs{left:Bool}{t base n m g:Nat}(mo:Mo c left t base n δ)(hm:m<n)(e:δ[base+m]?=some g)(h:bb c left t g=false):Fs c left t base n δ m:=by
 intro i g' p1 p2 e';by_cases hi:i=base+m
 ·subst hi;rw[e]at e';cases e';exact h
 ·cases z:bb c left t g' with
  | false=>rfl
  | true=>exact absurd (mo (base+m) i g g' (by lia) (by lia) p2 e e' z) (by rw[h];exact Bool.noConfusion)
theorem GS{l h:Nat}(q:l<h):l<=l+(h-l) / 2/\l+(h-l) / 2<h:=⟨Vj _ _,Nat.lt_of_lt_of_eq (Nat.add_lt_add_left (Nat.div_lt_self (Nat.sub_pos_of_lt q) (by decide)) l) (Wl (Zk q))⟩
theorem vA(C:Cm prog w A s k f N c)(hk:kindOf st=k){left:Bool}{t base n l h:Nat}(ht:t<N)(hb:∀(i g:Nat),δ[i]?=some g->g<N)(hs:base+n<=δ.size)(mo:Mo c left t base n δ)
  (h1:l<=h)(h2:h<=n)(tr:Tr c left t base δ l)(fs:Fs c left t base n δ h){Q:Option Nat->SortSt->Prop}(q:∀m,m<=n->Tr c left t base δ m->Fs c left t base n δ m->Q (some m) st) :
  wpS (model prog w) A E s (y8 left (f t) (δ.map f) base n l h) Q st:=by
 refine wpS_bind (wpS_mono (wpS_forRange (I:=fun x r st'=>st'=st/\∃l h,r=(none,l,h)/\l<=h/\h<=n/\h-l<=n-x/\Tr c left t base δ l/\Fs c left t base n δ h)
  (Q:=fun r st'=>st'=st/\∃l,r=(none,l,l)/\l<=n/\Tr c left t base δ l/\Fs c left t base n δ l) ?step ?fin ?init) ?post)
 case init=>exact⟨rfl,l,h,rfl,h1,h2,by lia,tr,fs⟩
 case fin =>
  rintro r st' ⟨rfl,l,h,rfl,b1,b2,b3,b4,b5⟩;obtain rfl:l=h:=by lia
  exact⟨rfl,l,rfl,b2,b4,b5⟩
 case step =>
  rintro x r st' p1 p2 ⟨rfl,l,h,rfl,b1,b2,b3,b4,b5⟩;dsimp only;by_cases hlh:l ≥ h
  ·refine eO hlh ?_;obtain rfl:l=h:=by lia
   exact wpS_pure ⟨rfl,l,rfl,b2,b4,b5⟩
  ·refine dY hlh ?_;obtain⟨q1,q2⟩:=GS (Nat.lt_of_not_le hlh);generalize l+(h-l) / 2=t' at q1 q2 ⊢;have q5:t'<n:=Zd q2 b2;obtain⟨g,e⟩:=iK (γ:=δ) (i:=base+t') (Zd (Nat.add_lt_add_left q5 base) hs);refine wpS_bind (vz C hk ht (hb _ _ e) e ?_);cases hc:bb c left t g with
   | true=>exact wpS_pure ⟨rfl,_,_,rfl,q2,b2,F7 b3 q1 q2,mo.tr q5 e hc,b5⟩
   | false=>exact wpS_pure ⟨rfl,_,_,rfl,q1,Zk q5,F6 b3 q2 q1,b4,mo.fs q5 e hc⟩
 case post =>
  rintro r st' ⟨rfl,l,rfl,b1,b2,b3⟩;exact wpS_pure (q l b1 b2 b3)
theorem y9(C:Cm prog w A s k f N c)(hk:kindOf st=k){left:Bool}{t base n hint:Nat}(ht:t<N)(hb:∀(i g:Nat),δ[i]?=some g->g<N)(hs:base+n<=δ.size)(hh:hint<n)(mo:Mo c left t base n δ)
  {Q:Option Nat->SortSt->Prop}(q:∀m,m<=n->Tr c left t base δ m->Fs c left t base n δ m->Q (some m) st) :
  wpS (model prog w) A E s (gal left (f t) (δ.map f) base n hint) Q st:=by
 obtain⟨g0,e0⟩:=iK (γ:=δ) (i:=base+hint) (by lia)
 refine wpS_bind (vz C hk ht (hb _ _ e0) e0 ?_);have sw:∀{m m':StateT SortSt Sem (Option Nat)},m=m'->wpS (model prog w) A E s m' Q st->wpS (model prog w) A E s m Q st:=fun e h=>e ▸ h;dsimp only;cases hc:bb c left t g0 with
 | true =>
  refine eO rfl ?_
  refine wpS_bind (wpS_mono (wpS_forRange (I:=fun x r st'=>st'=st/\∃a o,r=(none,a,o)/\a<o/\x<o/\a<n-hint/\Tr c left t base δ (hint+a+1))
   (Q:=fun r st'=>st'=st/\∃a o,r=(none,a,o)/\a<o/\a<n-hint/\Tr c left t base δ (hint+a+1)/\(n-hint<=o∨Fs c left t base n δ (hint+o))) ?step ?fin ?init) ?post)
  case init=>exact⟨rfl,0,1,rfl,by lia,by lia,by lia,mo.tr hh e0 hc⟩
  case fin =>
   rintro r st' ⟨rfl,a,o,rfl,b1,b2,b3,b4⟩;exact⟨rfl,a,o,rfl,b1,b3,b4,.inl (by lia)⟩
  case step =>
   rintro x r st' p1 p2 ⟨rfl,a,o,rfl,b1,b2,b3,b4⟩;dsimp only;by_cases ho:o ≥ n-hint
   ·refine eO ho ?_;exact wpS_pure ⟨rfl,a,o,rfl,b1,b3,b4,.inl ho⟩
   ·refine dY ho ?_;obtain⟨g,e⟩:=iK (γ:=δ) (i:=base+(hint+o)) (by lia)
    refine wpS_bind (vz C hk ht (hb _ _ e) e ?_);cases hc:bb c left t g with
    | true=>exact wpS_pure ⟨rfl,o,2*o+1,rfl,by lia,by lia,by lia,mo.tr (by lia) e hc⟩
    | false=>exact wpS_pure ⟨rfl,a,o,rfl,b1,b3,b4,.inr (mo.fs (by lia) e hc)⟩
  case post =>
   rintro r st' ⟨rfl,a,o,rfl,b1,b3,b4,b5⟩;refine sw (m':=y8 left (f t) (δ.map f) base n (hint+a+1) (hint+min o (n-hint))) (by unfold y8;dsimp only;congr 1;funext z;obtain⟨z1,z2,z3⟩:=z;cases z1<;>rfl) (vA C hk ht hb hs mo (Yj (Nat.lt_min.mpr ⟨b1,b3⟩) hint) (Xe (Yj (Nat.min_le_right _ _) _) (Nat.le_of_eq (Wl (Zk hh)))) b4 ?_ q)
   by_cases ho:n-hint<=o
   ·intro i g p1 p2;rw[Nat.min_eq_right ho,Wl (Zk hh)]at p1;exact absurd p2 (Nat.not_lt_of_le p1)
   ·rw[Nat.min_eq_left (Nat.le_of_not_le ho)];exact b5.resolve_left ho
 | false =>
  refine dY Bool.noConfusion ?_
  refine wpS_bind (wpS_mono (wpS_forRange (I:=fun x r st'=>st'=st/\∃a o,r=(none,a,o)/\a<o/\x<o/\a<hint+1/\Fs c left t base n δ (hint-a))
   (Q:=fun r st'=>st'=st/\∃a o,r=(none,a,o)/\a<o/\a<hint+1/\Fs c left t base n δ (hint-a)/\(hint+1<=o∨Tr c left t base δ (hint-o+1))) ?step ?fin ?init) ?post)
  case init=>exact⟨rfl,0,1,rfl,by lia,by lia,by lia,mo.fs hh e0 hc⟩
  case fin =>
   rintro r st' ⟨rfl,a,o,rfl,b1,b2,b3,b4⟩;exact⟨rfl,a,o,rfl,b1,b3,b4,.inl (by lia)⟩
  case step =>
   rintro x r st' p1 p2 ⟨rfl,a,o,rfl,b1,b2,b3,b4⟩;dsimp only;by_cases ho:o ≥ hint+1
   ·refine eO ho ?_;exact wpS_pure ⟨rfl,a,o,rfl,b1,b3,b4,.inl ho⟩
   ·refine dY ho ?_;obtain⟨g,e⟩:=iK (γ:=δ) (i:=base+(hint-o)) (by lia)
    refine wpS_bind (vz C hk ht (hb _ _ e) e ?_);cases hc:bb c left t g with
    | true=>exact wpS_pure ⟨rfl,a,o,rfl,b1,b3,b4,.inr (mo.tr (by lia) e hc)⟩
    | false=>exact wpS_pure ⟨rfl,o,2*o+1,rfl,by lia,by lia,by lia,mo.fs (by lia) e hc⟩
  case post =>
   rintro r st' ⟨rfl,a,o,rfl,b1,b3,b4,b5⟩;refine sw (m':=y8 left (f t) (δ.map f) base n (hint+1-min o (hint+1)) (hint-a)) (by unfold y8;dsimp only;congr 1;funext z;obtain⟨z1,z2,z3⟩:=z;cases z1<;>rfl) (vA C hk ht hb hs mo (Nat.succ_sub_succ hint a ▸ Nat.sub_le_sub_left (Nat.lt_min.mpr ⟨b1,b3⟩) _) (Xe (Nat.sub_le _ _) (Zk hh)) ?_ b4 q)
   by_cases ho:hint+1<=o
   ·intro i g p1 p2;rw[Nat.min_eq_right ho,Nat.sub_self]at p2;exact absurd p2 (Nat.not_lt_of_le p1)
   ·rw[Nat.min_eq_left (Nat.le_of_not_le ho),Nat.succ_sub (Nat.le_of_lt_succ (Nat.lt_of_not_le ho))];exact b5.resolve_left ho
end
end TS
namespace TS
open PySem PyProof.Rows
structure Mg(c:Nat->Nat->Bool)(α β ω la lb:List Nat):Prop where
 so:ω.Pairwise (Bf c)
 sa:la.Pairwise (Bf c)
 sb:lb.Pairwise (Bf c)
 xa:∀g∈ω,∀h∈la,Bf c g h
 xb:∀g∈ω,∀h∈lb,Bf c g h
 tag:∀g∈la,∀h∈lb,g<h
 perm:(ω++la++lb).Perm (α++β)
noncomputable def Gd(c:Nat->Nat->Bool)(α β l:List Nat):Prop:=l.Pairwise (Bf c)/\l.Perm (α++β)
section
variable {prog:Program}{w:World}{A:Around}{s:Shared}{k:SortKind}{f:Nat->Keyed}{N:Nat}{c:Nat->Nat->Bool}{α β ω la lb:List Nat}{x y:Nat}
theorem Mg.takeB(C:Cm prog w A s k f N c)(J:Mg c α β ω (x::la) (y::lb))(h:c y x=true):Mg c α β (ω++[y]) (x::la) lb:=by
 have sa:=Yh.mp J.sa;have sb:=Yh.mp J.sb;have ya:∀z∈x::la,Bf c y z:=fun z hz=>by
  rcases Ze.mp hz with rfl|hz
  ·exact .inl h
  ·exact C.trans (.inl h) (sa.1 z hz)
 refine⟨?_,J.sa,sb.2,fun g hg z hz=>?_,fun g hg z hz=>?_,fun g hg z hz=>J.tag g hg z (Xb _ hz),?_⟩
 ·rw[Qi];exact⟨J.so,List.pairwise_singleton _ _,fun g hg z hz=>by rw[Wb.mp hz];exact J.xb g hg y Zc⟩
 ·rcases Xc.mp hg with hg|hg
  ·exact J.xa g hg z hz
  ·rw[Wb.mp hg];exact ya z hz
 ·rcases Xc.mp hg with hg|hg
  ·exact J.xb g hg z (Xb _ hz)
  ·rw[Wb.mp hg];exact sb.1 z hz
 ·refine List.Perm.trans ?_ J.perm;rw[Vd,Vd,Vd];refine List.Perm.append_left ω ?_;exact(Zl (l₁:=x::la) (a:=y) (l₂:=lb)).symm
theorem Mg.takeA(C:Cm prog w A s k f N c)(J:Mg c α β ω (x::la) (y::lb))(h:c y x=false):Mg c α β (ω++[x]) la (y::lb):=by
 have sa:=Yh.mp J.sa;have sb:=Yh.mp J.sb;have xy:Bf c x y:=.inr ⟨h,J.tag x Zc y Zc⟩;refine⟨?_,sa.2,J.sb,fun g hg z hz=>?_,fun g hg z hz=>?_,fun g hg z hz=>J.tag g (Xb _ hg) z hz,?_⟩
 ·rw[Qi];exact⟨J.so,List.pairwise_singleton _ _,fun g hg z hz=>by rw[Wb.mp hz];exact J.xa g hg x Zc⟩
 ·rcases Xc.mp hg with hg|hg
  ·exact J.xa g hg z (Xb _ hz)
  ·rw[Wb.mp hg];exact sa.1 z hz
 ·rcases Xc.mp hg with hg|hg
  ·exact J.xb g hg z hz
  ·rw[Wb.mp hg];rcases Ze.mp hz with rfl|hz
   ·exact xy
   ·exact C.trans xy (sb.1 z hz)
 ·refine List.Perm.trans ?_ J.perm;rw[Vd ω [x] la];exact List.Perm.refl _
theorem Mg.takeAs(C:Cm prog w A s k f N c):∀(l:List Nat){ω la:List Nat},Mg c α β ω (l++la) (y::lb)->(∀g∈l,c y g=false)->Mg c α β (ω++l) la (y::lb)
 | [],ω,la,J,_=>by rw[Ve];exact J
 | x::l,ω,la,J,h=>by
  have:=Mg.takeAs C l (J.takeA C (h x Zc)) fun g hg=>h g (Xb _ hg);rwa [Vd]at this
theorem Mg.takeBs(C:Cm prog w A s k f N c):∀(l:List Nat){ω lb:List Nat},Mg c α β ω (x::la) (l++lb)->(∀g∈l,c g x=true)->Mg c α β (ω++l) (x::la) lb
 | [],ω,lb,J,_=>by rw[Ve];exact J
 | y::l,ω,lb,J,h=>by
  have:=Mg.takeBs C l (J.takeB C (h y Zc)) fun g hg=>h g (Xb _ hg);rwa [Vd]at this
theorem Mg.doneA(J:Mg c α β ω la []):Gd c α β (ω++la):=by
 refine⟨Qi.mpr ⟨J.so,J.sa,J.xa⟩,?_⟩;have:=J.perm;rwa [Ve]at this
theorem Mg.doneB(J:Mg c α β ω [] lb):Gd c α β (ω++lb):=by
 refine⟨Qi.mpr ⟨J.so,J.sb,J.xb⟩,?_⟩;have:=J.perm;rwa [Ve]at this
theorem Mg.last(C:Cm prog w A s k f N c)(J:Mg c α β ω [x] lb)(h:∀g∈lb,c g x=true):Gd c α β (ω++lb++[x]):=by
 have J':Mg c α β ω [x] (lb++[]):=by rw[Ve];exact J
 exact(J'.takeBs C lb h).doneA
end
end TS
namespace TS
open PySem PyProof.Rows
noncomputable def ar(f:Nat->Keyed)(l:List Nat):Array Keyed:=l.toArray.map f
noncomputable def Lw(f:Nat->Keyed)(c:Nat->Nat->Bool)(α β:List Nat)(o:Array Keyed)(i j:Nat):Prop:=∃ω,o=ar f ω/\Mg c α β ω (α.drop i) (β.drop j)
noncomputable def Rt(f:Nat->Keyed)(c:Nat->Nat->Bool)(α β:List Nat)(o:Array Keyed):Prop:=∃l,o=ar f l/\Gd c α β l
section
variable {prog:Program}{w:World}{A:Around}{s:Shared}{k:SortKind}{f:Nat->Keyed}{N:Nat}{c:Nat->Nat->Bool}{α β:List Nat}{o:Array Keyed}{i j x y:Nat}
theorem fj(l:List Nat):(ar f l).size=l.length:=by simp[ar]
theorem mV(l:List Nat)(g:Nat):(ar f l).push (f g)=ar f (l++[g]):=by simp[ar]
theorem eV(l m:List Nat):ar f l++ar f m=ar f (l++m):=by simp[ar]
theorem jU(l:List Nat)(p q:Nat):(ar f l).extract p q=ar f ((l.drop p).take (q-p)):=by simp[ar,List.extract]
theorem qE(l:List Nat)(p:Nat):(ar f l).extract p (ar f l).size=ar f (l.drop p):=by
 rw[jU,fj,Vl (by rw[Wj];exact Va _)]
theorem F8{l:List Nat}{p g:Nat}(e:l[p]?=some g):(ar f l)[p]?=some (f g):=by simp[ar,e]
theorem nV{l:List Nat}{p g:Nat}(e:l[p]?=some g):l.drop p=g::l.drop (p+1):=by
 obtain⟨h,rfl⟩:=Yb.mp e;exact Wm h
theorem Lw.b(C:Cm prog w A s k f N c)(L:Lw f c α β o i j)(hx:α[i]?=some x)(hy:β[j]?=some y)(h:c y x=true):Lw f c α β (o.push (f y)) i (j+1):=by
 obtain⟨ω,rfl,J⟩:=L;refine⟨ω++[y],mV _ _,?_⟩;rw[nV hx]at J ⊢;rw[nV hy]at J;exact J.takeB C h
theorem Lw.a(C:Cm prog w A s k f N c)(L:Lw f c α β o i j)(hx:α[i]?=some x)(hy:β[j]?=some y)(h:c y x=false):Lw f c α β (o.push (f x)) (i+1) j:=by
 obtain⟨ω,rfl,J⟩:=L;refine⟨ω++[x],mV _ _,?_⟩;rw[nV hy]at J ⊢;rw[nV hx]at J;exact J.takeA C h
theorem Lw.as(C:Cm prog w A s k f N c)(L:Lw f c α β o i j)(hy:β[j]?=some y){u:Nat}(h:∀p g,i<=p->p<i+u->α[p]?=some g->c y g=false):Lw f c α β (o++(ar f α).extract i (i+u)) (i+u) j:=by
 obtain⟨ω,rfl,J⟩:=L;refine⟨ω++(α.drop i).take u,by rw[jU,show i+u - i=u by lia,eV],?_⟩
 rw[nV hy]at J ⊢;refine Mg.takeAs C _ (la:=α.drop (i+u)) (by rw[← List.drop_drop,Xi];exact J) fun g hg=>?_
 obtain⟨p,hp⟩:=List.mem_iff_getElem?.mp hg;rw[Xn]at hp;split at hp
 ·rw[Wf]at hp;exact h (i+p) g (by lia) (by lia) hp
 ·cases hp
theorem Lw.bs(C:Cm prog w A s k f N c)(L:Lw f c α β o i j)(hx:α[i]?=some x){u:Nat}(h:∀p g,j<=p->p<j+u->β[p]?=some g->c g x=true):Lw f c α β (o++(ar f β).extract j (j+u)) i (j+u):=by
 obtain⟨ω,rfl,J⟩:=L;refine⟨ω++(β.drop j).take u,by rw[jU,show j+u - j=u by lia,eV],?_⟩
 rw[nV hx]at J ⊢;refine Mg.takeBs C _ (lb:=β.drop (j+u)) (by rw[← List.drop_drop (i:=u) (j:=j),Xi];exact J) fun g hg=>?_
 obtain⟨p,hp⟩:=List.mem_iff_getElem?.mp hg;rw[Xn]at hp;split at hp
 ·rw[Wf]at hp;exact h (j+p) g (by lia) (by lia) hp
 ·cases hp
theorem Lw.dn(L:Lw f c α β o i j)(h:j=β.length∨i=α.length):Rt f c α β (o++(ar f α).extract i (ar f α).size++(ar f β).extract j (ar f β).size):=by
 obtain⟨ω,rfl,J⟩:=L;rw[qE,qE,eV,eV];refine⟨_,rfl,?_⟩;rcases h with rfl|rfl
 ·rw[List.drop_length]at J ⊢;rw[Ve];exact J.doneA
 ·rw[List.drop_length]at J ⊢;rw[Ve];exact J.doneB
theorem Lw.la(C:Cm prog w A s k f N c)(L:Lw f c α β o i j)(hx:α[i]?=some x)(h:i+1=α.length)(z:∀g∈β,c g x=true):Rt f c α β (o++(ar f β).extract j (ar f β).size++(ar f α).extract i (ar f α).size):=by
 obtain⟨ω,rfl,J⟩:=L;rw[qE,qE,eV,eV];refine⟨_,rfl,?_⟩;rw[nV hx,h,List.drop_length]at J ⊢;exact J.last C fun g hg=>z g (List.mem_of_mem_drop hg)
end
end TS
namespace TS
open PySem PyProof.Rows
inductive Ex2{A B R:Type}(g:A->B->R)(p:A->B->Prop):R->Prop|mk (a b) (h:p a b):Ex2 g p (g a b)
inductive Ex4{A B C D R:Type}(g:A->B->C->D->R)(p:A->B->C->D->Prop):R->Prop|mk (a b c d) (h:p a b c d):Ex4 g p (g a b c d)
inductive Ex5{A B C D E R:Type}(g:A->B->C->D->E->R)(p:A->B->C->D->E->Prop):R->Prop|mk (a b c d e) (h:p a b c d e):Ex5 g p (g a b c d e)
inductive Ex6{A B C D E F R:Type}(g:A->B->C->D->E->F->R)(p:A->B->C->D->E->F->Prop):R->Prop|mk (a b c d e f) (h:p a b c d e f):Ex6 g p (g a b c d e f)
noncomputable def mlo:Array Keyed->Array Keyed->StateT SortSt Sem (Array Keyed):=sortPriv% PySem.Builtin.mergeLo
structure Sm(a b:SortSt):Prop where
 arr:arrOf b=arrOf a
 kind:kindOf b=kindOf a
 pend:pendingOf b=pendingOf a
 fine:failedOf b=failedOf a
theorem nW{M:Model}{A:Around}{E:Value->Shared->Prop}{s:Shared}{σ γ:Type}{B:Nat->StateT σ Sem γ}{p:Prop}{d:Decidable p}{m2:Nat}{Q:γ->σ->Prop}{st:σ}(h:∀m,wpS M A E s (B m) Q st):∀m1,wpS M A E s (@ite _ p d (B m1) (B m2)) Q st:=by
 intro m1;by_cases hp:p
 ·rw[if_pos hp];exact h _
 ·rw[if_neg hp];exact h _
theorem mW{M:Model}{A:Around}{E:Value->Shared->Prop}{s:Shared}{σ γ:Type}{X:StateT σ Sem γ}{B:Array Keyed->Nat->StateT σ Sem γ}{p:Prop}{d:Decidable p}{o:Array Keyed}{i:Nat}{Q:γ->σ->Prop}{st:σ}(I:Array Keyed->Nat->Prop)
  (h:p->(∀o i,I o i->wpS M A E s (B o i) Q st)->wpS M A E s X Q st)(g:¬ p->I o i)(hB:∀o i,I o i->wpS M A E s (B o i) Q st):wpS M A E s (@ite _ p d X (B o i)) Q st:=by
 by_cases hp:p
 ·rw[if_pos hp];exact h hp hB
 ·rw[if_neg hp];exact hB _ _ (g hp)
theorem F9{M:Model}{A:Around}{E:Value->Shared->Prop}{s:Shared}{σ γ O ρ A0 A1 A2 A3:Type}{lo hi:Nat}{F:Nat->Option O×ρ->StateT σ Sem (ForInStep (Option O×ρ))}{K:Option O×ρ->StateT σ Sem γ}(S:σ->Prop)(R:O->Prop)(g:A0->A1->A2->A3->ρ)(p:Nat->A0->A1->A2->A3->Prop)(p':A0->A1->A2->A3->Prop){Q:γ->σ->Prop}
  (step:∀x a b c d st,S st->p x a b c d->wpS M A E s (F x (none,g a b c d)) (fun r st'=>match r with|.done c'=>S st'/\(Ex2 (fun o z=>(some o,z)) (fun o _=>R o) c'∨Ex4 (fun a b c d=>(none,g a b c d)) p' c')|.yield c'=>S st'/\Ex4 (fun a b c d=>(none,g a b c d)) (p (x+1)) c') st)
  (fin:∀a b c d,p (max lo hi) a b c d->False) {r:Option O×ρ} {st:σ} (hS:S st) (init:Ex4 (fun a b c d=>(none,g a b c d)) (p lo) r) (sm:∀o z st',S st'->R o->wpS M A E s (K (some o,z)) Q st') (nn:∀a b c d st',S st'->p' a b c d->wpS M A E s (K (none,g a b c d)) Q st'):wpS M A E s (forIn [lo:hi] r F >>= K) Q st:=by
 refine wpS_bind (wpS_mono (wpS_forRange (I:=fun x r st=>S st/\Ex4 (fun a b c d=>(none,g a b c d)) (p x) r) (Q:=fun r st=>S st/\(Ex2 (fun o z=>(some o,z)) (fun o _=>R o) r∨Ex4 (fun a b c d=>(none,g a b c d)) p' r)) ?_ ?_ ⟨hS,init⟩) ?_)
 ·rintro x r st _ _ ⟨h,a,b,c,d,z⟩;exact wpS_mono (step x a b c d st h z) fun r st' h=>by cases r<;>exact h
 ·rintro r st ⟨_,a,b,c,d,z⟩;exact(fin a b c d z).elim
 ·rintro r st ⟨h,⟨o,z,h1⟩|⟨a,b,c,d,h1⟩⟩
  ·exact sm o z st h h1
  ·exact nn a b c d st h h1
theorem Ga{M:Model}{A:Around}{E:Value->Shared->Prop}{s:Shared}{σ γ O ρ A0 A1 A2 A3 A4:Type}{lo hi:Nat}{F:Nat->Option O×ρ->StateT σ Sem (ForInStep (Option O×ρ))}{K:Option O×ρ->StateT σ Sem γ}(S:σ->Prop)(R:O->Prop)(g:A0->A1->A2->A3->A4->ρ)(p:Nat->A0->A1->A2->A3->A4->Prop)(p':A0->A1->A2->A3->A4->Prop){Q:γ->σ->Prop}
  (step:∀x a b c d e st,S st->p x a b c d e->wpS M A E s (F x (none,g a b c d e)) (fun r st'=>match r with|.done c'=>S st'/\(Ex2 (fun o z=>(some o,z)) (fun o _=>R o) c'∨Ex5 (fun a b c d e=>(none,g a b c d e)) p' c')|.yield c'=>S st'/\Ex5 (fun a b c d e=>(none,g a b c d e)) (p (x+1)) c') st)
  (fin:∀a b c d e,p (max lo hi) a b c d e->False) {r:Option O×ρ} {st:σ} (hS:S st) (init:Ex5 (fun a b c d e=>(none,g a b c d e)) (p lo) r) (sm:∀o z st',S st'->R o->wpS M A E s (K (some o,z)) Q st') (nn:∀a b c d e st',S st'->p' a b c d e->wpS M A E s (K (none,g a b c d e)) Q st'):wpS M A E s (forIn [lo:hi] r F >>= K) Q st:=by
 refine wpS_bind (wpS_mono (wpS_forRange (I:=fun x r st=>S st/\Ex5 (fun a b c d e=>(none,g a b c d e)) (p x) r) (Q:=fun r st=>S st/\(Ex2 (fun o z=>(some o,z)) (fun o _=>R o) r∨Ex5 (fun a b c d e=>(none,g a b c d e)) p' r)) ?_ ?_ ⟨hS,init⟩) ?_)
 ·rintro x r st _ _ ⟨h,a,b,c,d,e,z⟩;exact wpS_mono (step x a b c d e st h z) fun r st' h=>by cases r<;>exact h
 ·rintro r st ⟨_,a,b,c,d,e,z⟩;exact(fin a b c d e z).elim
 ·rintro r st ⟨h,⟨o,z,h1⟩|⟨a,b,c,d,e,h1⟩⟩
  ·exact sm o z st h h1
  ·exact nn a b c d e st h h1
theorem Gb{M:Model}{A:Around}{E:Value->Shared->Prop}{s:Shared}{σ γ O ρ A0 A1 A2 A3 A4 A5:Type}{lo hi:Nat}{F:Nat->Option O×ρ->StateT σ Sem (ForInStep (Option O×ρ))}{K:Option O×ρ->StateT σ Sem γ}(S:σ->Prop)(R:O->Prop)(g:A0->A1->A2->A3->A4->A5->ρ)(p:Nat->A0->A1->A2->A3->A4->A5->Prop)(p':A0->A1->A2->A3->A4->A5->Prop){Q:γ->σ->Prop}
  (step:∀x a b c d e f st,S st->p x a b c d e f->wpS M A E s (F x (none,g a b c d e f)) (fun r st'=>match r with|.done c'=>S st'/\(Ex2 (fun o z=>(some o,z)) (fun o _=>R o) c'∨Ex6 (fun a b c d e f=>(none,g a b c d e f)) p' c')|.yield c'=>S st'/\Ex6 (fun a b c d e f=>(none,g a b c d e f)) (p (x+1)) c') st)
  (fin:∀a b c d e f,p (max lo hi) a b c d e f->False) {r:Option O×ρ} {st:σ} (hS:S st) (init:Ex6 (fun a b c d e f=>(none,g a b c d e f)) (p lo) r) (sm:∀o z st',S st'->R o->wpS M A E s (K (some o,z)) Q st') (nn:∀a b c d e f st',S st'->p' a b c d e f->wpS M A E s (K (none,g a b c d e f)) Q st'):wpS M A E s (forIn [lo:hi] r F >>= K) Q st:=by
 refine wpS_bind (wpS_mono (wpS_forRange (I:=fun x r st=>S st/\Ex6 (fun a b c d e f=>(none,g a b c d e f)) (p x) r) (Q:=fun r st=>S st/\(Ex2 (fun o z=>(some o,z)) (fun o _=>R o) r∨Ex6 (fun a b c d e f=>(none,g a b c d e f)) p' r)) ?_ ?_ ⟨hS,init⟩) ?_)
 ·rintro x r st _ _ ⟨h,a,b,c,d,e,f,z⟩;exact wpS_mono (step x a b c d e f st h z) fun r st' h=>by cases r<;>exact h
 ·rintro r st ⟨_,a,b,c,d,e,f,z⟩;exact(fin a b c d e f z).elim
 ·rintro r st ⟨h,⟨o,z,h1⟩|⟨a,b,c,d,e,f,h1⟩⟩
  ·exact sm o z st h h1
  ·exact nn a b c d e f st h h1
section
variable {prog:Program}{w:World}{A:Around}{E:Value->Shared->Prop}{s:Shared}{k:SortKind}{f:Nat->Keyed}{N:Nat}{c:Nat->Nat->Bool}{st:SortSt}{α β:List Nat}
theorem Sm.refl(a:SortSt):Sm a a:=⟨rfl,rfl,rfl,rfl⟩
theorem Sm.trans{a b d:SortSt}(x:Sm a b)(y:Sm b d):Sm a d:=⟨y.arr.trans x.arr,y.kind.trans x.kind,y.pend.trans x.pend,y.fine.trans x.fine⟩
structure Two(c:Nat->Nat->Bool)(N:Nat)(α β:List Nat):Prop where
 sa:α.Pairwise (Bf c)
 sb:β.Pairwise (Bf c)
 tag:∀g∈α,∀h∈β,g<h
 ba:∀g∈α,g<N
 bb:∀g∈β,g<N
 na:α≠[]
 nb:β≠[]
 first:∀x y,α[0]?=some x->β[0]?=some y->c y x=true
 last:∀x,α[α.length-1]?=some x->∀g∈β,c g x=true
theorem Gc{l:List Nat}{i g:Nat}(e:l[i]?=some g){Q:Keyed->SortSt->Prop}(q:Q (f g) st):wpS (model prog w) A E s (elem' (ar f l) i) Q st:=by
 rw[elem'_eq,F8 e];exact wpS_pure q
theorem zc(C:Cm prog w A s k f N c){l:List Nat}(hs:l.Pairwise (Bf c))(t base n:Nat):Mo c false t base n l.toArray:=by
 intro i j g h p1 p2 p3 e1 e2 z;have e1':l[i]?=some g:=by simpa using e1
 have e2':l[j]?=some h:=by simpa using e2
 obtain⟨hi,rfl⟩:=Yb.mp e1';obtain⟨hj,rfl⟩:=Yb.mp e2';have b:=C.le (Zi.mp hs i j hi hj p2);simp only[bb,Qe,if_false,Bool.not_eq_true']at z ⊢;cases z2:c t l[i] with
 | false=>rfl
 | true =>
  rcases C.neg t l[j] l[i] z2 with q|q
  ·rw[z]at q;cases q
  ·rw[b]at q;cases q
theorem Bw(C:Cm prog w A s k f N c){l:List Nat}(hs:l.Pairwise (Bf c))(t base n:Nat):Mo c true t base n l.toArray:=by
 intro i j g h p1 p2 p3 e1 e2 z;have e1':l[i]?=some g:=by simpa using e1
 have e2':l[j]?=some h:=by simpa using e2
 obtain⟨hi,rfl⟩:=Yb.mp e1';obtain⟨hj,rfl⟩:=Yb.mp e2';have b:=C.le (Zi.mp hs i j hi hj p2);simp only[bb,if_true]at z ⊢;rcases C.neg l[j] l[i] t z with q|q
 ·rw[b]at q;cases q
 ·exact q
theorem Ef(C:Cm prog w A s k f N c)(hk:kindOf st=k){l:List Nat}(hs:l.Pairwise (Bf c))(hb:∀g∈l,g<N){left:Bool}{t base n hint:Nat}(ht:t<N)(hz:base+n<=l.length)(hh:hint<n)
  {Q:Option Nat->SortSt->Prop}(q:∀m,m<=n->(∀i g,base<=i->i<base+m->l[i]?=some g->bb c left t g=true)->(∀i g,base+m<=i->i<base+n->l[i]?=some g->bb c left t g=false)->Q (some m) st) :
  wpS (model prog w) A E s ((sortPriv% PySem.Builtin.gallop) left (f t) (ar f l) base n hint) Q st:=by
 show wpS (model prog w) A E s (gal left (f t) (ar f l) base n hint) Q st;have mo:Mo c left t base n l.toArray:=by
  cases left with
  | true=>exact Bw C hs t base n
  | false=>exact zc C hs t base n
 refine y9 C hk ht (δ:=l.toArray) (fun i g e=>hb g ?_) (by simpa using hz) hh mo fun m h1 h2 h3=>q m h1 (fun i g p1 p2 e=>h2 i g p1 p2 (by simpa using e)) fun i g p1 p2 e=>h3 i g p1 p2 (by simpa using e)
 exact Wa (by simpa using e)
theorem Ge{g:Nat}{Q:Unit->SortSt->Prop}(q:∀st',Sm st st'->Q ⟨⟩ st'):wpS (model prog w) A E s ((sortPriv% PySem.Builtin.setMinGallop) g) Q st:=wpS_modify (q _ ⟨rfl,rfl,rfl,rfl⟩)
theorem eM{M:Model}{σ γ:Type}{X Y:StateT σ Sem γ}{p:Prop}{d:Decidable p}{Q:γ->σ->Prop}{st:σ}(t:p->wpS M A E s X Q st)(e:¬ p->wpS M A E s Y Q st):wpS M A E s (@ite _ p d X Y) Q st:=by
 by_cases h:p
 ·exact eO h (t h)
 ·exact dY h (e h)
theorem ck{M:Model}{σ γ:Type}{X Y:StateT σ Sem γ}{a b:Nat}{d:Decidable ((a == b)=true)}{Q:γ->σ->Prop}{st:σ}(t:a=b->wpS M A E s X Q st)(e:a≠b->wpS M A E s Y Q st):wpS M A E s (@ite _ ((a == b)=true) d X Y) Q st :=
 eM (fun h=>t (eq_of_beq h)) fun h=>e fun z=>h (z ▸ beq_self_eq_true _)
section
variable {γ:Type}{Q:γ->SortSt->Prop}{l:List Nat}{i:Nat}{K:Keyed->StateT SortSt Sem γ}
theorem elk{g:Nat}(e:l[i]?=some g)(q:wpS (model prog w) A E s (K (f g)) Q st):wpS (model prog w) A E s (elem' (ar f l) i >>= K) Q st:=wpS_bind (Gc e q)
theorem elb(h:i<l.length)(q:∀g,l[i]?=some g->wpS (model prog w) A E s (K (f g)) Q st):wpS (model prog w) A E s (elem' (ar f l) i >>= K) Q st:=elk (Za h) (q _ (Za h))
theorem sgb{g:Nat}{K:Unit->StateT SortSt Sem γ}(q:∀st',Sm st st'->wpS (model prog w) A E s (K ⟨⟩) Q st'):wpS (model prog w) A E s ((sortPriv% PySem.Builtin.setMinGallop) g >>= K) Q st:=wpS_bind (Ge q)
theorem glob(C:Cm prog w A s k f N c)(hk:kindOf st=k)(hs:l.Pairwise (Bf c))(hb:∀g∈l,g<N){left:Bool}{t base n hint:Nat}(ht:t<N)(hz:base+n<=l.length)(hh:hint<n){K:Option Nat->StateT SortSt Sem γ}
  (q:∀m,m<=n->(∀i g,base<=i->i<base+m->l[i]?=some g->bb c left t g=true)->(∀i g,base+m<=i->i<base+n->l[i]?=some g->bb c left t g=false)->wpS (model prog w) A E s (K (some m)) Q st) :
  wpS (model prog w) A E s ((sortPriv% PySem.Builtin.gallop) left (f t) (ar f l) base n hint >>= K) Q st:=wpS_bind (Ef C hk hs hb ht hz hh q)
end
theorem Ex4.of{A B C D R:Type}{g:A->B->C->D->R}{p:A->B->C->D->Prop}{r a b c d}(e:r=g a b c d)(h:p a b c d):Ex4 g p r:=e ▸ ⟨a,b,c,d,h⟩
theorem Lw.bv(C:Cm prog w A s k f N c){o:Array Keyed}{i j y:Nat}(L:Lw f c α β o i j)(hl:i<α.length)(hy:β[j]?=some y)(h:∀x,α[i]?=some x->c y x=true):Lw f c α β (o.push (f y)) i (j+1):=L.b C (Za hl) hy (h _ (Za hl))
theorem Lw.av(C:Cm prog w A s k f N c){o:Array Keyed}{i j x:Nat}(L:Lw f c α β o i j)(hl:j<β.length)(hx:α[i]?=some x)(h:∀y,β[j]?=some y->c y x=false):Lw f c α β (o.push (f x)) (i+1) j:=L.a C hx (Za hl) (h _ (Za hl))
theorem Lw.dq{o:Array Keyed}{i j:Nat}(L:Lw f c α β o i j)(h:j=(ar f β).size∨i=(ar f α).size):Rt f c α β (o++(ar f α).extract i (ar f α).size++(ar f β).extract j (ar f β).size):=L.dn (h.imp (·.trans (fj _)) (·.trans (fj _)))
theorem Lw.lq(C:Cm prog w A s k f N c)(T:Two c N α β){o:Array Keyed}{i j:Nat}(L:Lw f c α β o i j)(h:i+1=(ar f α).size):Rt f c α β (o++(ar f β).extract j (ar f β).size++(ar f α).extract i (ar f α).size):=by
 rw[fj]at h;obtain⟨x,hx⟩:∃x,α[i]?=some x:=⟨_,Za (h ▸ Qm i)⟩;exact L.la C hx h (T.last x (by rw[← h];exact hx))
set_option maxHeartbeats 1000000 in
theorem Eg(C:Cm prog w A s k f N c)(hk:kindOf st=k)(T:Two c N α β){Q:Array Keyed->SortSt->Prop}(q:∀o st',Sm st st'->Rt f c α β o->Q o st'):wpS (model prog w) A E s (mlo (ar f α) (ar f β)) Q st:=by
 have la:0<α.length:=Vg.mpr T.na;have lb:0<β.length:=Vg.mpr T.nb;obtain⟨x0,hx0⟩:∃x,α[0]?=some x:=⟨_,Za la⟩;obtain⟨y0,hy0⟩:∃y,β[0]?=some y:=⟨_,Za lb⟩;have M0:Mg c α β [] α β:=⟨List.Pairwise.nil,T.sa,T.sb,fun g hg=>by simp at hg,fun g hg=>by simp at hg,T.tag,List.Perm.refl _⟩
 have L0:Lw f c α β #[] 0 0:=⟨[],by simp[ar],by simpa using M0⟩
 have L1:Lw f c α β #[f y0] 0 1:=by have:=L0.b C hx0 hy0 (T.first _ _ hx0 hy0);simpa using this
 have za:(ar f α).size=α.length:=fj _;have zb:(ar f β).size=β.length:=fj _;refine wpS_bind (wpS_lift (wpAny_rule ⟨rfl,elk hy0 ?_⟩));refine ck (fun h1=>wpS_pure (q _ _ (Sm.refl _) (L1.dq (.inl h1)))) fun h1=>ck (fun h2=>wpS_pure (q _ _ (Sm.refl _) (L1.lq C T h2))) fun h2=>wpS_bind (wpS_get ?_);refine F9 (Sm st) (Rt f c α β) (fun o i j m=>(o,i,j,m)) (fun x o i j _=>Lw f c α β o i j/\i+1<α.length/\j<β.length/\x<i+j) (fun _ _ _ _=>False) ?step ?fin (Sm.refl _) ?init (fun o z st' sm R=>wpS_pure (q _ _ sm R)) fun _ _ _ _ _ _ z=>z.elim
 case init=>exact⟨_,_,_,_,L1,by lia,by lia,Va _⟩
 case fin =>
  rintro o i j m ⟨L,b1,b2,b3⟩;lia
 case step =>
  intro x o i j m st' sm hI;have hk':kindOf st'=k:=sm.kind.trans hk;dsimp (config:={ zeta:=false,zetaHave:=false }) only;refine Ga (fun st2=>st2=st') (Rt f c α β) (fun o' i' j' a b=>(o',i',j',a,b)) (fun y o' i' j' _ _=>Lw f c α β o' i' j'/\i'+1<α.length/\j'<β.length/\i'+j'=i+j+y)
   (fun o' i' j' _ _=>Lw f c α β o' i' j'/\i'+1<α.length/\j'<β.length/\i+j<i'+j') ?step1 ?fin1 rfl ?init1 (fun o' z st2 e R=>wpS_pure ⟨e ▸ sm,.inl ⟨o',_,R⟩⟩) ?post1
  case init1=>exact⟨_,_,_,_,_,hI.1,hI.2.1,hI.2.2.1,rfl⟩
  case fin1 =>
   rintro o' i' j' a b ⟨L',c1,c2,c3⟩;lia
  case step1 =>
   intro y o' i' j' a b st2 e hI;subst e;have L':=hI.1;have c1:=hI.2.1;have c2:=hI.2.2.1;have c3:=hI.2.2.2;dsimp (config:={ zeta:=false,zetaHave:=false }) only;refine elb c2 fun yv hy=>elb (Nat.lt_of_succ_lt c1) fun xv hx=>wpS_bind (sx C hk' (T.bb _ (Wa hy)) (T.ba _ (Wa hx)) ?_);dsimp (config:={ zeta:=false,zetaHave:=false }) only;refine eM (fun hc=>?_) fun hc=>?_
   ·have L2:=L'.b C hx hy hc;refine elk hy (ck (fun e1=>wpS_pure ⟨rfl,.inl ⟨_,_,L2.dq (.inl e1)⟩⟩) fun e1=>?_);have c2':j'+1<β.length:=Nat.lt_of_le_of_ne c2 (zb ▸ e1);exact eM (fun _=>wpS_pure ⟨rfl,.inr ⟨_,_,_,_,_,L2,c1,c2',by lia⟩⟩) fun _=>wpS_pure ⟨rfl,_,_,_,_,_,L2,c1,c2',congrArg Nat.succ c3⟩
   ·have L2:=L'.a C hx hy (Bool.eq_false_iff.mpr hc);refine elk hx (ck (fun e1=>wpS_pure ⟨rfl,.inl ⟨_,_,L2.lq C T e1⟩⟩) fun e1=>?_);have c1':i'+1+1<α.length:=Nat.lt_of_le_of_ne c1 (za ▸ e1);exact eM (fun _=>wpS_pure ⟨rfl,.inr ⟨_,_,_,_,_,L2,c1',c2,by lia⟩⟩) fun _=>wpS_pure ⟨rfl,_,_,_,_,_,L2,c1',c2,by lia⟩
  case post1 =>
   intro o' i' j' a b st2 e hI';subst e;dsimp (config:={ zeta:=false,zetaHave:=false }) only;refine wpS_bind (wpS_lift (wpAny_rule ⟨rfl,?_⟩));refine Gb (Sm st) (Rt f c α β) (fun o2 i2 j2 m2 a2 b2=>(o2,i2,j2,m2,a2,b2)) (fun y o2 i2 j2 _ _ _=>Lw f c α β o2 i2 j2/\i2+1<α.length/\j2<β.length/\i'+j'+y<=i2+j2)
    (fun o2 i2 j2 _ _ _=>Lw f c α β o2 i2 j2/\i2+1<α.length/\j2<β.length/\i'+j'<=i2+j2) ?step2 ?fin2 sm ?init2 (fun o' z st2 sm R=>wpS_pure ⟨sm,.inl ⟨o',_,R⟩⟩) ?post2
   case init2=>exact⟨_,_,_,_,_,_,hI'.1,hI'.2.1,hI'.2.2.1,Va _⟩
   case fin2 =>
    rintro o2 i2 j2 m2 a2 b2 ⟨L2,d1,d2,d3⟩;lia
   case post2 =>
    intro o2 i2 j2 m2 a2 b2 st3 sm3 hI2;dsimp only;exact sgb fun st4 sm4'=>wpS_pure ⟨sm3.trans sm4',_,_,_,_,hI2.1,hI2.2.1,hI2.2.2.1,Zd (Yn (hI.2.2.2) hI'.2.2.2) hI2.2.2.2⟩
   case step2 =>
    intro y o2 i2 j2 m2 a2 b2 st3 sm3 hI2;have L2:=hI2.1;have d1:=hI2.2.1;have d2:=hI2.2.2.1;have d3:=hI2.2.2.2;dsimp only;generalize m2-1=m1;revert m1;apply nW;intro m3;refine sgb fun st4 sm4'=>elb d2 fun yv hy=>?_;have sm4:Sm st st4:=sm3.trans sm4';have hk4:kindOf st4=k:=sm4.kind.trans hk;refine glob C hk4 T.sa T.ba (T.bb _ (Wa hy)) (left:=false) (base:=i2) (n:=(ar f α).size-i2) (hint:=0) (by lia) (by lia) fun u hu tr fs=>?_
    have L3:=L2.as C hy (u:=u) fun p g z1 z2 z3=>by simpa[bb]using tr p g z1 z2 z3
    dsimp only;apply mW (o:=o2) (i:=i2) (I:=fun o i=>Lw f c α β o i j2/\i=i2+u/\i+1<α.length)
    case g=>exact fun hu0=>⟨L2,by lia,d1⟩
    case h=>exact fun _ key=>ck (fun e1=>wpS_pure ⟨sm4,.inl ⟨_,_,L3.lq C T e1⟩⟩) fun e1=>ck (fun e2=>wpS_pure ⟨sm4,.inl ⟨_,_,L3.dq (.inr e2)⟩⟩) fun e2=>key _ _ ⟨L3,rfl,by lia⟩
    intro o i hJ;have L3:=hJ.1;have hi:=hJ.2.1;have hl:=Nat.lt_of_succ_lt hJ.2.2;have L4:=L3.bv C hl hy fun x hx=>by simpa[bb]using fs i x (by lia) (by lia) hx
    refine elk hy ?_;generalize hj4:j2+1=j4 at L4 ⊢;generalize o.push (f yv)=o4 at L4 ⊢;refine ck (fun e3=>wpS_pure ⟨sm4,.inl ⟨_,_,L4.dq (.inl e3)⟩⟩) fun e3=>elb hl fun xv hx=>?_;refine glob C hk4 T.sb T.bb (T.ba _ (Wa hx)) (left:=true) (base:=j4) (n:=(ar f β).size-j4) (hint:=0) (by lia) (by lia) fun v hv tr2 fs2=>?_
    have L5:=L4.bs C hx (u:=v) fun p g z1 z2 z3=>by simpa[bb]using tr2 p g z1 z2 z3
    dsimp only;apply mW (o:=o4) (i:=j4) (I:=fun o j=>Lw f c α β o i j/\j=j4+v/\j<β.length)
    case g=>exact fun hv0=>⟨L4,by lia,by lia⟩
    case h=>exact fun _ key=>ck (fun e4=>wpS_pure ⟨sm4,.inl ⟨_,_,L5.dq (.inl e4)⟩⟩) fun e4=>key _ _ ⟨L5,rfl,by lia⟩
    intro o5 j5 hJ5;have hj5:=hJ5.2.1;have hl5:=hJ5.2.2;have L6:=hJ5.1.av C hl5 hx fun y hy=>by simpa[bb]using fs2 j5 y (by lia) (by lia) hy
    refine elk hx (ck (fun e5=>wpS_pure ⟨sm4,.inl ⟨_,_,L6.lq C T e5⟩⟩) fun e5=>?_);have w1:i+1+1<α.length:=Nat.lt_of_le_of_ne hJ.2.2 (za ▸ e5);have w2:i'+j'+(y+1)<=i+1+j5:=by lia
    exact eM (fun _=>wpS_pure ⟨sm4,.inr ⟨_,_,_,_,_,_,L6,w1,hl5,Xe (Vj _ _) w2⟩⟩) fun _=>wpS_pure ⟨sm4,_,_,_,_,_,_,L6,w1,hl5,w2⟩
end
end TS
namespace TS
open PySem PyProof.Rows
structure Mh(c:Nat->Nat->Bool)(α β la lb ω:List Nat):Prop where
 so:ω.Pairwise (Bf c)
 sa:la.Pairwise (Bf c)
 sb:lb.Pairwise (Bf c)
 xa:∀g∈la,∀h∈ω,Bf c g h
 xb:∀g∈lb,∀h∈ω,Bf c g h
 tag:∀g∈la,∀h∈lb,g<h
 perm:(la++lb++ω).Perm (α++β)
section
variable {prog:Program}{w:World}{A:Around}{s:Shared}{k:SortKind}{f:Nat->Keyed}{N:Nat}{c:Nat->Nat->Bool}{α β ω la lb:List Nat}{x y:Nat}
theorem mX{l:List Nat}(h:(l++[x]).Pairwise (Bf c)):l.Pairwise (Bf c)/\∀g∈l,Bf c g x:=by
 have:=Qi.mp h;exact⟨this.1,fun g hg=>this.2.2 g hg x (Wb.mpr rfl)⟩
theorem Mh.takeA(C:Cm prog w A s k f N c)(J:Mh c α β (la++[x]) (lb++[y]) ω)(h:c y x=true):Mh c α β la (lb++[y]) (x::ω):=by
 have sa:=mX J.sa;have sb:=mX J.sb;refine⟨Yh.mpr ⟨fun g hg=>J.xa x (by simp) g hg,J.so⟩,sa.1,J.sb,fun g hg z hz=>?_,fun g hg z hz=>?_,fun g hg z hz=>J.tag g (by simp[hg]) z hz,?_⟩
 ·rcases Ze.mp hz with rfl|hz
  ·exact sa.2 g hg
  ·exact J.xa g (by simp[hg]) z hz
 ·rcases Ze.mp hz with rfl|hz
  ·rcases Xc.mp hg with hg|hg
   ·exact C.trans (sb.2 g hg) (.inl h)
   ·rw[Wb.mp hg];exact .inl h
  ·exact J.xb g hg z hz
 ·refine List.Perm.trans ?_ J.perm;have p:(la++(lb++[y])++x::ω).Perm (x::(la++(lb++[y])++ω)):=Zl;have q:(la++[x]++(lb++[y])++ω).Perm (x::(la++(lb++[y])++ω)):=by
   rw[Vd la,Vd la];exact List.perm_middle.trans (by rw[Vd la];exact List.Perm.refl _)
  exact p.trans q.symm
theorem Mh.takeB(C:Cm prog w A s k f N c)(J:Mh c α β (la++[x]) (lb++[y]) ω)(h:c y x=false):Mh c α β (la++[x]) lb (y::ω):=by
 have sa:=mX J.sa;have sb:=mX J.sb;have xy:Bf c x y:=.inr ⟨h,J.tag x (by simp) y (by simp)⟩
 refine⟨Yh.mpr ⟨fun g hg=>J.xb y (by simp) g hg,J.so⟩,J.sa,sb.1,fun g hg z hz=>?_,fun g hg z hz=>?_,fun g hg z hz=>J.tag g hg z (by simp[hz]),?_⟩
 ·rcases Ze.mp hz with rfl|hz
  ·rcases Xc.mp hg with hg|hg
   ·exact C.trans (sa.2 g hg) xy
   ·rw[Wb.mp hg];exact xy
  ·exact J.xa g hg z hz
 ·rcases Ze.mp hz with rfl|hz
  ·exact sb.2 g hg
  ·exact J.xb g (by simp[hg]) z hz
 ·refine List.Perm.trans ?_ J.perm;have e:la++[x]++lb++y::ω=la++[x]++(lb++[y])++ω:=by simp
  rw[e]
theorem Mh.takeAs(C:Cm prog w A s k f N c):∀(n:Nat)(l:List Nat),l.length=n->∀{ω la:List Nat},Mh c α β (la++l) (lb++[y]) ω->(∀g∈l,c y g=true)->Mh c α β la (lb++[y]) (l++ω)
 | 0,l,hn,ω,la,J,_=>by
  obtain rfl:=Zf hn;simpa using J
 | n+1,l,hn,ω,la,J,h=>by
  rcases List.eq_nil_or_concat l with rfl|⟨l',x,rfl⟩
  ·simp at hn
  ·rw[List.concat_eq_append]at J h hn ⊢;rw[← Vd]at J;have:=Mh.takeAs C n l' (by simpa using hn) (J.takeA C (h x (by simp))) fun g hg=>h g (by simp[hg])
   simpa using this
theorem Mh.takeBs(C:Cm prog w A s k f N c):∀(n:Nat)(l:List Nat),l.length=n->∀{ω lb:List Nat},Mh c α β (la++[x]) (lb++l) ω->(∀g∈l,c g x=false)->Mh c α β (la++[x]) lb (l++ω)
 | 0,l,hn,ω,lb,J,_=>by
  obtain rfl:=Zf hn;simpa using J
 | n+1,l,hn,ω,lb,J,h=>by
  rcases List.eq_nil_or_concat l with rfl|⟨l',y,rfl⟩
  ·simp at hn
  ·rw[List.concat_eq_append]at J h hn ⊢;rw[← Vd]at J;have:=Mh.takeBs C n l' (by simpa using hn) (J.takeB C (h y (by simp))) fun g hg=>h g (by simp[hg])
   simpa using this
theorem Mh.doneA(J:Mh c α β la [] ω):Gd c α β (la++ω):=by
 refine⟨Qi.mpr ⟨J.sa,J.so,J.xa⟩,?_⟩;have:=J.perm;rwa [Ve]at this
theorem Mh.doneB(J:Mh c α β [] lb ω):Gd c α β (lb++ω):=⟨Qi.mpr ⟨J.sb,J.so,J.xb⟩,by have:=J.perm;rwa [List.nil_append]at this⟩
theorem Mh.firstB(C:Cm prog w A s k f N c)(J:Mh c α β la [y] ω)(h:∀g∈la,c y g=true):Gd c α β ([y]++la++ω):=by
 have J':Mh c α β ([]++la) ([]++[y]) ω:=by simpa using J
 have:=(Mh.takeAs C la.length la rfl J' h).doneB;simpa using this
end
noncomputable def Hw(f:Nat->Keyed)(c:Nat->Nat->Bool)(α β:List Nat)(o:Array Keyed)(i j:Nat):Prop:=∃ω,o=ar f ω.reverse/\Mh c α β (α.take i) (β.take j) ω
section
variable {prog:Program}{w:World}{A:Around}{E:Value->Shared->Prop}{s:Shared}{k:SortKind}{f:Nat->Keyed}{N:Nat}{c:Nat->Nat->Bool}{α β:List Nat}{o:Array Keyed}{i j x y:Nat}{st:SortSt}
theorem qF(l:List Nat):(ar f l).reverse=ar f l.reverse:=by simp[ar]
theorem vB(l:List Nat)(p:Nat):(ar f l).extract 0 p=ar f (l.take p):=by rw[jU];simp
theorem nX{l:List Nat}{p g:Nat}(e:l[p]?=some g):l.take (p+1)=l.take p++[g]:=by rw[List.take_succ,e];rfl
theorem Hw.a(C:Cm prog w A s k f N c)(L:Hw f c α β o (i+1) (j+1))(hx:α[i]?=some x)(hy:β[j]?=some y)(h:c y x=true):Hw f c α β (o.push (f x)) i (j+1):=by
 obtain⟨ω,rfl,J⟩:=L;refine⟨x::ω,by rw[mV,List.reverse_cons],?_⟩
 rw[nX hx]at J;rw[nX hy]at J ⊢;exact J.takeA C h
theorem Hw.b(C:Cm prog w A s k f N c)(L:Hw f c α β o (i+1) (j+1))(hx:α[i]?=some x)(hy:β[j]?=some y)(h:c y x=false):Hw f c α β (o.push (f y)) (i+1) j:=by
 obtain⟨ω,rfl,J⟩:=L;refine⟨y::ω,by rw[mV,List.reverse_cons],?_⟩
 rw[nX hy]at J;rw[nX hx]at J ⊢;exact J.takeB C h
theorem sB{l:List Nat}{u i:Nat}(h:u<=i):l.take i=l.take u++(l.drop u).take (i-u):=by
 rw[List.take_drop,show u+(i - u)=i by lia]
 have:=Xi u (l.take i);rw[List.take_take,Nat.min_eq_left h]at this;exact this.symm
theorem qG{l:List Nat}{u n g:Nat}(h:g∈(l.drop u).take n):∃p,u<=p/\p<u+n/\l[p]?=some g:=by
 obtain⟨p,hp⟩:=List.mem_iff_getElem?.mp h;rw[Xn]at hp;split at hp
 ·rw[Wf]at hp;exact⟨u+p,by lia,by lia,hp⟩
 ·cases hp
theorem Hw.as(C:Cm prog w A s k f N c)(L:Hw f c α β o i (j+1))(hy:β[j]?=some y){u:Nat}(hu:u<=i)(h:∀p g,u<=p->p<i->α[p]?=some g->c y g=true):Hw f c α β (o++((ar f α).extract u i).reverse) u (j+1):=by
 obtain⟨ω,rfl,J⟩:=L;refine⟨(α.drop u).take (i-u)++ω,by rw[jU,qF,eV,List.reverse_append],?_⟩
 rw[nX hy]at J ⊢;rw[sB hu]at J;exact Mh.takeAs C _ _ rfl J fun g hg=>by
  obtain⟨p,p1,p2,p3⟩:=qG hg;exact h p g p1 (by lia) p3
theorem Hw.bs(C:Cm prog w A s k f N c)(L:Hw f c α β o (i+1) j)(hx:α[i]?=some x){u:Nat}(hu:u<=j)(h:∀p g,u<=p->p<j->β[p]?=some g->c g x=false):Hw f c α β (o++((ar f β).extract u j).reverse) (i+1) u:=by
 obtain⟨ω,rfl,J⟩:=L;refine⟨(β.drop u).take (j-u)++ω,by rw[jU,qF,eV,List.reverse_append],?_⟩
 rw[nX hx]at J ⊢;rw[sB hu]at J;exact Mh.takeBs C _ _ rfl J fun g hg=>by
  obtain⟨p,p1,p2,p3⟩:=qG hg;exact h p g p1 (by lia) p3
theorem Hw.dn(L:Hw f c α β o i j)(h:i=0∨j=0):Rt f c α β ((ar f α).extract 0 i++(ar f β).extract 0 j++o.reverse):=by
 obtain⟨ω,rfl,J⟩:=L;rw[vB,vB,qF,List.reverse_reverse,eV,eV];refine⟨_,rfl,?_⟩;rcases h with rfl|rfl
 ·rw[List.take_zero]at J ⊢;rw[List.nil_append];exact J.doneB
 ·rw[List.take_zero]at J ⊢;rw[Ve];exact J.doneA
theorem Hw.fb(C:Cm prog w A s k f N c)(T:Two c N α β)(L:Hw f c α β o i 1):Rt f c α β ((ar f β).extract 0 1++(ar f α).extract 0 i++o.reverse):=by
 have lb:0<β.length:=Vg.mpr T.nb;have la:0<α.length:=Vg.mpr T.na;obtain⟨y0,hy0⟩:∃y,β[0]?=some y:=⟨_,Za lb⟩;obtain⟨x0,hx0⟩:∃x,α[0]?=some x:=⟨_,Za la⟩;have hc:=T.first _ _ hx0 hy0
 obtain⟨ω,rfl,J⟩:=L;rw[vB,vB,qF,List.reverse_reverse,eV,eV];refine⟨_,rfl,?_⟩;have e:β.take 1=[y0]:=by have:=nX hy0;simpa using this
 rw[e]at J ⊢;refine J.firstB C fun g hg=>?_;obtain⟨p,hp⟩:=List.mem_iff_getElem?.mp (List.mem_of_mem_take hg);by_cases h0:p=0
 ·subst h0;rw[hx0]at hp;cases hp;exact hc
 ·obtain⟨hp1,rfl⟩:=Yb.mp hp;obtain⟨hx1,rfl⟩:=Yb.mp hx0;have b:=C.le (Zi.mp T.sa 0 p hx1 hp1 (by lia))
  rcases C.neg y0 α[p] α[0] hc with q|q
  ·exact q
  ·rw[b]at q;cases q
end
end TS
namespace TS
open PySem PyProof.Rows
noncomputable def mhi:Array Keyed->Array Keyed->StateT SortSt Sem (Array Keyed):=sortPriv% PySem.Builtin.mergeHi
section
variable {prog:Program}{w:World}{A:Around}{E:Value->Shared->Prop}{s:Shared}{k:SortKind}{f:Nat->Keyed}{N:Nat}{c:Nat->Nat->Bool}{st:SortSt}{α β:List Nat}
theorem Hw.fc(C:Cm prog w A s k f N c)(T:Two c N α β){o:Array Keyed}{i j:Nat}(L:Hw f c α β o i j)(h:j=1):Rt f c α β ((ar f β).extract 0 j++(ar f α).extract 0 i++o.reverse):=by subst h;exact L.fb C T
theorem Hw.bu(C:Cm prog w A s k f N c){o:Array Keyed}{i j j' y:Nat}(L:Hw f c α β o i j)(h0:0<i)(h1:j=j'+1)(hy:β[j']?=some y)(hl:i-1<α.length)(h:∀x,α[i-1]?=some x->c y x=false):Hw f c α β (o.push (f y)) i j':=by
 subst h1;obtain⟨i,rfl⟩:=We (Yk h0);have e:α[i]?=some α[i]:=Za hl;exact L.b C e hy (h _ e)
theorem Hw.au(C:Cm prog w A s k f N c){o:Array Keyed}{i j x:Nat}(L:Hw f c α β o i j)(h0:0<i)(h1:0<j)(hx:α[i-1]?=some x)(hl:j-1<β.length)(h:∀y,β[j-1]?=some y->c y x=true):Hw f c α β (o.push (f x)) (i-1) j:=by
 obtain⟨i,rfl⟩:=We (Yk h0);obtain⟨j,rfl⟩:=We (Yk h1);have e:β[j]?=some β[j]:=Za hl;exact L.a C hx e (h _ e)
theorem Hw.bt(C:Cm prog w A s k f N c){o:Array Keyed}{i j x:Nat}(L:Hw f c α β o i j)(h0:0<i)(hx:α[i-1]?=some x){u:Nat}(hu:u<=j)(h:∀p g,u<=p->p<j->β[p]?=some g->c g x=false):Hw f c α β (o++((ar f β).extract u j).reverse) i u:=by
 obtain⟨i,rfl⟩:=We (Yk h0);exact L.bs C hx hu h
set_option maxHeartbeats 1000000 in
theorem Eh(C:Cm prog w A s k f N c)(hk:kindOf st=k)(T:Two c N α β){Q:Array Keyed->SortSt->Prop}(q:∀o st',Sm st st'->Rt f c α β o->Q o st'):wpS (model prog w) A E s (mhi (ar f α) (ar f β)) Q st:=by
 have la:0<α.length:=Vg.mpr T.na;have lb:0<β.length:=Vg.mpr T.nb;obtain⟨n,hn⟩:∃n,α.length=n+1:=We (Yk la);obtain⟨b,hb⟩:∃b,β.length=b+1:=We (Yk lb);obtain⟨xl,hxl⟩:∃x,α[n]?=some x:=⟨_,Za (hn ▸ Qm n)⟩;obtain⟨yl,hyl⟩:∃y,β[b]?=some y:=⟨_,Za (hb ▸ Qm b)⟩;have M0:Mh c α β α β []:=⟨List.Pairwise.nil,T.sa,T.sb,fun g hg h hh=>by simp at hh,fun g hg h hh=>by simp at hh,T.tag,by simp⟩
 have L0:Hw f c α β #[] (n+1) (b+1):=⟨[],by simp[ar],by rw[← hn,← hb,List.take_length,List.take_length];exact M0⟩
 have hcl:c yl xl=true:=T.last xl (by rw[hn];exact hxl) yl (Wa hyl)
 have sa:(ar f α).size-1=n:=by rw[fj,hn];rfl
 have sb:(ar f β).size=b+1:=by rw[fj,hb]
 have L1:Hw f c α β #[f xl] ((ar f α).size-1) (ar f β).size:=by rw[sa,sb];have:=L0.a C hxl hyl hcl;simpa using this
 refine wpS_bind (wpS_lift (wpAny_rule ⟨rfl,elk (by rw[sa];exact hxl) ?_⟩))
 refine ck (fun h1=>wpS_pure (q _ _ (Sm.refl _) (L1.dn (.inl h1)))) fun h1=>ck (fun h2=>wpS_pure (q _ _ (Sm.refl _) (L1.fc C T h2))) fun h2=>wpS_bind (wpS_get ?_);have za:(ar f α).size=α.length:=fj _;refine F9 (Sm st) (Rt f c α β) (fun o i j m=>(i+1,j+1+1,o,m)) (fun x o i j _=>Hw f c α β o (i+1) (j+1+1)/\i<α.length/\j+1<β.length/\x+i+j+3<α.length+β.length) (fun _ _ _ _=>False) ?step ?fin (Sm.refl _) ?init (fun o z st' sm R=>wpS_pure (q _ _ sm R)) fun _ _ _ _ _ _ z=>z.elim
 case init =>
  rw[sa]at h1 L1;rw[sb]at h2 L1;obtain⟨n1,rfl⟩:=We h1;obtain⟨b1,rfl⟩:∃m,b=m+1:=We fun z=>h2 (by rw[z])
  exact Ex4.of (by rw[sa,sb]) ⟨L1,by lia,by lia,by lia⟩
 case fin =>
  rintro o i j m ⟨L,b1,b2,b3⟩;lia
 case step =>
  intro x o i j m st' sm hI;have hk':kindOf st'=k:=sm.kind.trans hk;dsimp (config:={ zeta:=false,zetaHave:=false }) only;refine Ga (fun st2=>st2=st') (Rt f c α β) (fun o' i' j' a b=>(i'+1,j'+1+1,o',a,b)) (fun y o' i' j' _ _=>Hw f c α β o' (i'+1) (j'+1+1)/\i'<α.length/\j'+1<β.length/\y+i'+j'=i+j)
   (fun o' i' j' _ _=>Hw f c α β o' (i'+1) (j'+1+1)/\i'<α.length/\j'+1<β.length/\i'+j'<i+j) ?step1 ?fin1 rfl ?init1 (fun o' z st2 e R=>wpS_pure ⟨e ▸ sm,.inl ⟨o',_,R⟩⟩) ?post1
  case init1=>exact⟨_,_,_,_,_,hI.1,hI.2.1,hI.2.2.1,Nat.zero_add _ ▸ rfl⟩
  case fin1 =>
   rintro o' i' j' a b ⟨L',c1,c2,c3⟩;lia
  case step1 =>
   intro y o' i' j' a b st2 e hI;subst e;have L':=hI.1;have c1:=hI.2.1;have c2:=hI.2.2.1;have c3:=hI.2.2.2;dsimp (config:={ zeta:=false,zetaHave:=false }) only;refine elb c2 fun yv hy=>elb c1 fun xv hx=>wpS_bind (sx C hk' (T.bb _ (Wa hy)) (T.ba _ (Wa hx)) ?_);dsimp (config:={ zeta:=false,zetaHave:=false }) only;refine eM (fun hc=>?_) fun hc=>?_
   ·have L2:=L'.a C hx hy hc;refine elk hx (ck (fun e1=>wpS_pure ⟨rfl,.inl ⟨_,_,L2.dn (.inl e1)⟩⟩) fun e1=>?_);obtain⟨i1,rfl⟩:=We e1;have c1':i1<α.length:=Nat.lt_of_succ_lt c1;exact eM (fun _=>wpS_pure ⟨rfl,.inr ⟨_,i1,j',_,_,L2,c1',c2,by lia⟩⟩) fun _=>wpS_pure ⟨rfl,_,i1,j',_,_,L2,c1',c2,by lia⟩
   ·have L2:=L'.b C hx hy (Bool.eq_false_iff.mpr hc);refine elk hy (ck (fun e1=>wpS_pure ⟨rfl,.inl ⟨_,_,L2.fc C T e1⟩⟩) fun e1=>?_);obtain⟨j1,rfl⟩:∃m,j'=m+1:=We fun z=>e1 (by rw[z])
    have c2':j1+1<β.length:=Nat.lt_of_succ_lt c2;exact eM (fun _=>wpS_pure ⟨rfl,.inr ⟨_,i',j1,_,_,L2,c1,c2',by lia⟩⟩) fun _=>wpS_pure ⟨rfl,_,i',j1,_,_,L2,c1,c2',by lia⟩
  case post1 =>
   intro o' i' j' a b st2 e hI';subst e;dsimp (config:={ zeta:=false,zetaHave:=false }) only;refine wpS_bind (wpS_lift (wpAny_rule ⟨rfl,?_⟩));refine Gb (Sm st) (Rt f c α β) (fun o2 i2 j2 m2 a2 b2=>(i2,j2,o2,m2,a2,b2)) (fun y o2 i2 j2 _ _ _=>Hw f c α β o2 i2 j2/\0<i2/\i2<=α.length/\1<j2/\j2<=β.length/\i2+j2+y<=i'+1+(j'+1+1))
    (fun o2 i2 j2 _ _ _=>Hw f c α β o2 i2 j2/\0<i2/\i2<=α.length/\1<j2/\j2<=β.length/\i2+j2<=i'+1+(j'+1+1)) ?step2 ?fin2 sm ?init2 (fun o' z st2 sm R=>wpS_pure ⟨sm,.inl ⟨o',_,R⟩⟩) ?post2
   case init2=>exact⟨_,_,_,_,_,_,hI'.1,Nat.succ_pos _,hI'.2.1,Nat.succ_lt_succ (Nat.succ_pos _),hI'.2.2.1,Va _⟩
   case fin2 =>
    rintro o2 i2 j2 m2 a2 b2 ⟨L2,d1,d2,d3,d4,d5⟩;have:=hI'.2.1;have:=hI'.2.2.1;lia
   case post2 =>
    intro o2 i2 j2 m2 a2 b2 st3 sm3 hI2;dsimp only;refine sgb fun st4 sm4'=>wpS_pure ⟨sm3.trans sm4',?_⟩;obtain⟨L2,d1,d2,d3,d4,d5⟩:=hI2;obtain⟨i3,rfl⟩:=We (Yk d1);obtain⟨j3,rfl⟩:∃m,j2=m+1+1:=⟨j2-2,by lia⟩
    have:=hI.2.2.2;have:=hI'.2.2.2;exact⟨_,i3,j3,_,L2,d2,d4,by lia⟩
   case step2 =>
    intro y o2 i2 j2 m2 a2 b2 st3 sm3 hI2;have L2:=hI2.1;have d1:=hI2.2.1;have d2:=hI2.2.2.1;have d3:=hI2.2.2.2.1;have d4:=hI2.2.2.2.2.1;have d5:=hI2.2.2.2.2.2;dsimp only;generalize hj3:j2-1=j3;have ej:j2=j3+1:=by lia
    have hjl:j3<β.length:=by lia
    generalize m2-1=m1;revert m1;apply nW;intro m3;refine sgb fun st4 sm4'=>elb hjl fun yv hy=>?_;have sm4:Sm st st4:=sm3.trans sm4';have hk4:kindOf st4=k:=sm4.kind.trans hk;refine glob C hk4 T.sa T.ba (T.bb _ (Wa hy)) (left:=false) (by lia) (Nat.pred_lt_of_lt d1) fun u hu tr fs=>?_
    have L3:=(ej ▸ L2:Hw f c α β o2 i2 (j3+1)).as C hy hu fun p g z1 z2 z3=>by simpa[bb]using fs p g (by lia) (by lia) z3
    rw[← ej]at L3;dsimp only;generalize hk1:i2-u=k1;apply mW (o:=o2) (i:=i2) (I:=fun o i=>Hw f c α β o i j2/\i=u/\0<i)
    case g=>exact fun hu0=>⟨L2,by lia,d1⟩
    case h=>exact fun _ key=>ck (fun e1=>wpS_pure ⟨sm4,.inl ⟨_,_,L3.dn (.inl e1)⟩⟩) fun e1=>key _ u ⟨L3,rfl,Nat.pos_of_ne_zero e1⟩
    rintro o i ⟨L3,hi,hl⟩;have hj0:0<j3:=by lia
    have hi2:i-1<i:=Nat.pred_lt_of_lt hl;have hiu:i<=i2:=hi ▸ hu;have hia:i-1<α.length:=Zd hi2 (Xe hiu d2);have L4:=L3.bu C hl ej hy hia fun x hx=>by simpa[bb]using tr _ x (Wh _) (by lia) hx
    refine elk hy ?_;generalize o.push (f yv)=o4 at L4 ⊢;refine ck (fun e3=>wpS_pure ⟨sm4,.inl ⟨_,_,L4.fc C T e3⟩⟩) fun e3=>elb hia fun xv hx=>?_;refine glob C hk4 T.sb T.bb (T.ba _ (Wa hx)) (left:=true) (base:=0) (n:=j3) (by lia) (Nat.pred_lt_of_lt hj0) fun v hv tr2 fs2=>?_
    have L5:=L4.bt C hl hx hv fun p g z1 z2 z3=>by simpa[bb]using fs2 p g (by lia) (by lia) z3
    dsimp only;generalize hk2:j3-v=k2;apply mW (o:=o4) (i:=j3) (I:=fun o j=>Hw f c α β o i j/\j=v/\1<j)
    case g=>exact fun hv0=>⟨L4,by lia,by lia⟩
    case h=>exact fun _ key=>ck (fun e4=>wpS_pure ⟨sm4,.inl ⟨_,_,L5.fc C T e4⟩⟩) fun e4=>ck (fun e7=>wpS_pure ⟨sm4,.inl ⟨_,_,L5.dn (.inr e7)⟩⟩) fun e7=>key _ v ⟨L5,rfl,by lia⟩
    rintro o5 j5 ⟨L5,hj5,hl5⟩;have hj7:0<j5:=Nat.lt_of_succ_lt hl5;have hj6:j5-1<β.length:=by lia
    have L6:=L5.au C hl hj7 hx hj6 fun y hy=>by simpa[bb]using tr2 _ y (Wh _) (by lia) hy
    refine elk hx (ck (fun e5=>wpS_pure ⟨sm4,.inl ⟨_,_,L6.dn (.inl e5)⟩⟩) fun e5=>?_);have w1:=Nat.pos_of_ne_zero e5;have w3:j5<=β.length:=by lia
    have w2:i-1+j5+(y+1)<=i'+1+(j'+1+1):=by lia
    exact eM (fun _=>wpS_pure ⟨sm4,.inr ⟨_,_,_,_,_,_,L6,w1,Zk hia,hl5,w3,Xe (Vj _ _) w2⟩⟩) fun _=>wpS_pure ⟨sm4,_,_,_,_,_,_,L6,w1,Zk hia,hl5,w3,w2⟩
end
end TS
namespace TS
open PySem PyProof.Rows
theorem sC{α:Type}(sa:Nat):∀(ms:List α)(j:Nat)(x:Array α),sa+j+ms.length<=x.size ->
  ((ms.zipIdx j).foldl (fun a (p:α×Nat)=>a.setIfInBounds (sa+p.2) p.1) x).toList=x.toList.take (sa+j)++ms++x.toList.drop (sa+j+ms.length)
 | [],j,x,_=>by simp
 | m::ms,j,x,h=>by
  rw[Qd]at h;rw[List.zipIdx_cons,List.foldl_cons,sC sa ms (j+1) _ (by rw[Array.size_setIfInBounds];lia)]
  have hl:sa+j<x.toList.length:=by rw[Yc];lia
  have e:(x.setIfInBounds (sa+j) m).toList=x.toList.set (sa+j) m:=by simp
  have e1:(x.toList.set (sa+j) m).take (sa+(j+1))=x.toList.take (sa+j)++[m]:=by
   rw[show sa+(j+1)=sa+j+1 by lia,List.take_succ,List.take_set_of_le (Va _),List.getElem?_set_self hl];rfl
  have e2:(x.toList.set (sa+j) m).drop (sa+(j+1)+ms.length)=x.toList.drop (sa+j+(ms.length+1)):=by
   rw[List.drop_set_of_lt (by lia),show sa+(j+1)+ms.length=sa+j+(ms.length+1) by lia]
  rw[e,e1,e2,Qd];simp
noncomputable def pc(γ:Array Nat)(lo n:Nat):List Nat:=(γ.toList.drop lo).take n
section
variable {prog:Program}{w:World}{A:Around}{E:Value->Shared->Prop}{s:Shared}{k:SortKind}{f:Nat->Keyed}{N:Nat}{c:Nat->Nat->Bool}{st:SortSt}{γ:Array Nat}
theorem jV{lo n:Nat}(h:lo+n<=γ.size):(pc γ lo n).length=n:=by
 unfold pc;rw[Qk,Wj,Yc];lia
theorem vC{lo n i:Nat}(h:i<n):(pc γ lo n)[i]?=γ[lo+i]?:=by
 unfold pc;rw[Xn,if_pos h,Wf];simp
theorem nY(lo:Nat)(n m:Nat):pc γ lo (n+m)=pc γ lo n++pc γ (lo+n) m:=by
 unfold pc;rw[List.take_add,List.drop_drop]
theorem vD{lo n:Nat}(sg:Sg c γ lo (lo+n)):(pc γ lo n).Pairwise (Bf c):=by
 rw[Zi];intro i j hi hj hij;have li:i<n:=by have:=List.length_take_le n (γ.toList.drop lo);unfold pc at hi;lia
 have lj:j<n:=by have:=List.length_take_le n (γ.toList.drop lo);unfold pc at hj;lia
 exact sg (lo+i) (lo+j) _ _ (by lia) (by lia) (by lia) (by rw[← vC li];exact Za hi) (by rw[← vC lj];exact Za hj)
theorem fF{lo n g:Nat}(h:g∈pc γ lo n):∃i,lo<=i/\i<lo+n/\γ[i]?=some g:=by
 obtain⟨p,h1,h2,h3⟩:=qG h;exact⟨p,h1,h2,by simpa using h3⟩
theorem CJ(lo n:Nat):(γ.map f).extract lo (lo+n)=ar f (pc γ lo n):=by
 have e:γ.map f=ar f γ.toList:=by simp[ar]
 rw[e,jU,show lo+n - lo=n by lia];rfl
theorem Gf(C:Cm prog w A s k f N c){lo n:Nat}(sg:Sg c γ lo (lo+n))(left:Bool)(t:Nat):Mo c left t lo n γ:=by
 intro i j g h p1 p2 p3 e1 e2 z;have b:=C.le (sg i j g h p1 p2 p3 e1 e2);cases left with
 | false =>
  simp only[bb,Qe,if_false,Bool.not_eq_true']at z ⊢;cases z2:c t g with
  | false=>rfl
  | true =>
   rcases C.neg t h g z2 with q|q
   ·rw[z]at q;cases q
   ·rw[b]at q;cases q
 | true =>
  simp only[bb,if_true]at z ⊢;rcases C.neg h g t z with q|q
  ·rw[b]at q;cases q
  ·exact q
theorem whole{lo n:Nat}(h:lo+n<=γ.size):γ.toList=γ.toList.take lo++pc γ lo n++γ.toList.drop (lo+n):=by
 unfold pc;rw[← List.drop_drop,Vd,Xi,Xi]
theorem wX{lo n:Nat}(h:lo+n<=γ.size){X:List Nat}(p:X.Perm (pc γ lo n)){γ':Array Nat}(e:γ'.toList=γ.toList.take lo++X++γ.toList.drop (lo+n)) :
  γ'.Perm γ/\Out γ γ' lo (lo+n)/\(∀i,i<n->γ'[lo+i]?=X[i]?):=by
 have hX:X.length=n:=by rw[p.length_eq,jV h]
 have hlo:(γ.toList.take lo).length=lo:=by rw[Qk,Yc];lia
 have hg:∀i:Nat,γ'[i]?=γ'.toList[i]?:=fun i=>Wg.symm;have hg2:∀i:Nat,γ[i]?=γ.toList[i]?:=fun i=>Wg.symm;refine⟨?_,fun i hi=>?_,fun i hi=>?_⟩
 ·rw[Yg,e]
  conv=>rhs;rw[whole h]
  exact(p.append_left _).append_right _
 ·rw[hg,hg2,e];rcases hi with hi|hi
  ·rw[Vd,Yf (by lia),Xn,if_pos hi]
  ·rw[Ye (by rw[Xa];lia),Xa,hlo,hX,Wf]
   congr 1;lia
 ·rw[hg,e,Vd,Ye (by lia),hlo,Yf (by lia)]
  congr 1;lia
theorem Ei{lo n:Nat}{X:List Nat}{γ':Array Nat}(hX:X.length=n)(at':∀i,i<n->γ'[lo+i]?=X[i]?)(pw:X.Pairwise (Bf c)):Sg c γ' lo (lo+n):=by
 intro i j g h p1 p2 p3 e1 e2;have e1':X[i - lo]?=some g:=by rw[← at' (i - lo) (by lia),show lo+(i - lo)=i by lia];exact e1
 have e2':X[j - lo]?=some h:=by rw[← at' (j - lo) (by lia),show lo+(j - lo)=j by lia];exact e2
 obtain⟨hi,rfl⟩:=Yb.mp e1';obtain⟨hj,rfl⟩:=Yb.mp e2';exact Zi.mp pw _ _ hi hj (by lia)
theorem Ej{lo n:Nat}{X:List Nat}{γ':Array Nat}(at':∀i,i<n->γ'[lo+i]?=X[i]?)(ow:∀g∈X,lo<=g/\g<lo+n):Ow γ' lo (lo+n):=by
 intro i g p1 p2 e;refine ow g (Wa (i:=i-lo) ?_);rw[← at' (i - lo) (by lia),show lo+(i - lo)=i by lia];exact e
end
end TS
namespace TS
open PySem PyProof.Rows
noncomputable def mat:Nat->StateT SortSt Sem Bool:=sortPriv% PySem.Builtin.mergeAt
section
variable {prog:Program}{w:World}{A:Around}{E:Value->Shared->Prop}{s:Shared}{k:SortKind}{f:Nat->Keyed}{N:Nat}{c:Nat->Nat->Bool}{st:SortSt}{γ:Array Nat}
theorem Bx{σ:Type}{st' st0:σ}{Q:PUnit->σ->Prop}(h:Q ⟨⟩ st'):wpS (model prog w) A E s (set st':StateT σ Sem PUnit) Q st0:=by
 unfold wpS;rw[StateT.run_set];exact wpAny_pure ⟨rfl,h⟩
theorem zd{i g:Nat}(e:γ[i]?=some g){Q:Keyed->SortSt->Prop}(q:Q (f g) st):wpS (model prog w) A E s (elem' (γ.map f) i) Q st:=by
 rw[elem'_eq,Ym,e];exact wpS_pure q
theorem ze(C:Cm prog w A s k f N c)(hk:kindOf st=k){left:Bool}{t base n hint:Nat}(ht:t<N)(hb:∀(i g:Nat),γ[i]?=some g->g<N)(hs:base+n<=γ.size)(hh:hint<n)(sg:Sg c γ base (base+n))
  {Q:Option Nat->SortSt->Prop}(q:∀m,m<=n->Tr c left t base γ m->Fs c left t base n γ m->Q (some m) st) :
  wpS (model prog w) A E s ((sortPriv% PySem.Builtin.gallop) left (f t) (γ.map f) base n hint) Q st:=y9 C hk ht hb hs hh (Gf C sg left t) q
structure Mtd(k:SortKind)(f:Nat->Keyed)(N:Nat)(c:Nat->Nat->Bool)(γ:Array Nat)(lo n:Nat)(st':SortSt)(γ':Array Nat):Prop where
 rp:Rp k f N st' γ'
 sg:Sg c γ' lo (lo+n)
 ow:Ow γ' lo (lo+n)
 out:Out γ γ' lo (lo+n)
theorem Ek(C:Cm prog w A s k f N c)(R:Rp k f N st γ){i sa na p1 nb p2:Nat}(e1:(pendingOf st)[i]?=some (sa,na,p1))(e2:(pendingOf st)[i+1]?=some (sa+na,nb,p2))(ha:1<=na)(hb:1<=nb)(hN:sa+na+nb<=N)
  (ga:Sg c γ sa (sa+na))(oa:Ow γ sa (sa+na))(gb:Sg c γ (sa+na) (sa+na+nb))(ob:Ow γ (sa+na) (sa+na+nb))
  {Q:Bool->SortSt->Prop} (q:∀st' γ',Mtd k f N c γ sa (na+nb) st' γ'->pendingOf st'=((pendingOf st).setIfInBounds i (sa,na+nb,p1)).eraseIdxIfInBounds (i+1)->Q true st') :
  wpS (model prog w) A E s (mat i) Q st:=by
 have hsz:=R.size;have bnd:∀(i g:Nat),γ[i]?=some g->g<N:=fun i g e=>R.bnd e;obtain⟨t,ht⟩:=iK (γ:=γ) (i:=sa+na) (by lia)
 obtain⟨x,hx⟩:=iK (γ:=γ) (i:=sa+na-1) (by lia)
 have tN:=bnd _ _ ht;have xN:=bnd _ _ hx;have tagab:∀i j g h,sa<=i->i<sa+na->sa+na<=j->j<sa+na+nb->γ[i]?=some g->γ[j]?=some h->g<h:=fun i j g h a1 a2 a3 a4 z1 z2=>by
  have:=oa i g a1 a2 z1;have:=ob j h a3 a4 z2;lia
 have tb:∀j h,sa+na<=j->j<sa+na+nb->γ[j]?=some h->c h t=false:=fun j h a3 a4 z=>by
  by_cases hj:j=sa+na
  ·subst hj;rw[ht]at z;cases z;exact C.irr _
  ·exact C.le (gb (sa+na) j t h (Va _) (by lia) a4 ht z)
 have ax:∀i g,sa<=i->i<sa+na->γ[i]?=some g->c x g=false:=fun i g a1 a2 z=>by
  by_cases hi:i=sa+na-1
  ·subst hi;rw[hx]at z;cases z;exact C.irr _
  ·exact C.le (ga i (sa+na-1) g x a1 (by lia) (by lia) z hx)
 have idle:(∀i j g h,sa<=i->i<sa+na->sa+na<=j->j<sa+na+nb->γ[i]?=some g->γ[j]?=some h->c h g=false)->∀st1,arrOf st1=arrOf st->kindOf st1=kindOf st->failedOf st1=failedOf st->Mtd k f N c γ sa (na+nb) st1 γ:=fun hc st1 a1 k1 f1=>by
  refine⟨⟨a1.trans R.arr,k1.trans R.kind,f1.trans R.fine,R.perm⟩,fun i j g h z1 z2 z3 z4 z5=>?_,fun i g z1 z2 z3=>?_,Out.refl _ _ _⟩
  ·by_cases hi:i<sa+na
   ·by_cases hj:j<sa+na
    ·exact ga i j g h z1 z2 hj z4 z5
    ·exact .inr ⟨hc i j g h z1 hi (by lia) (by lia) z4 z5,tagab i j g h z1 hi (by lia) (by lia) z4 z5⟩
   ·exact gb i j g h (by lia) z2 (by lia) z4 z5
  ·by_cases hi:i<sa+na
   ·have:=oa i g z1 hi z3;lia
   ·have:=ob i g (by lia) (by lia) z3;lia
 have ra:(sortPriv% PySem.Builtin.SortState.a) st=γ.map f:=R.arr;refine wpS_bind (wpS_get ?_);dsimp only;rw[e1,e2];dsimp only;refine wpS_bind (wpS_mono (Q:=fun _ st1=>arrOf st1=arrOf st/\kindOf st1=kindOf st/\failedOf st1=failedOf st/\pendingOf st1=((pendingOf st).setIfInBounds i (sa,na+nb,p1)).eraseIdxIfInBounds (i+1)) (Bx ⟨rfl,rfl,rfl,rfl⟩) ?_);rintro _ st1 ⟨a1,k1,f1,pd1⟩;have hk1:kindOf st1=k:=k1.trans R.kind;rw[ra];refine wpS_bind (zd ht ?_);refine wpS_bind (ze C hk1 tN bnd (left:=false) (base:=sa) (n:=na) (hint:=0) (by lia) (by lia) ga fun u hu tr fs=>?_)
 dsimp only;have tr':∀i g,sa<=i->i<sa+u->γ[i]?=some g->c t g=false:=fun i g z1 z2 z3=>by simpa[bb]using tr i g z1 z2 z3
 have fs':∀i g,sa+u<=i->i<sa+na->γ[i]?=some g->c t g=true:=fun i g z1 z2 z3=>by simpa[bb]using fs i g z1 z2 z3
 by_cases e3:(na-u == 0)=true
 ·refine eO e3 ?_;have e3':na-u=0:=eq_of_beq e3;refine wpS_pure (q st1 γ (idle (fun i j g h z1 z2 z3 z4 z5 z6=>?_) st1 a1 k1 f1) pd1);exact C.letr (tr' i g z1 (by lia) z5) (tb j h z3 z4 z6)
 refine dY e3 ?_;have e3':na-u≠0:=fun z=>e3 (by rw[z];rfl)
 have eu:sa+u+(na-u)=sa+na:=by rw[Nat.add_assoc,Wl hu]
 rw[eu];refine wpS_bind (zd hx ?_);refine wpS_bind (ze C hk1 xN bnd (left:=true) (base:=sa+na) (n:=nb) (hint:=nb-1) (by lia) (by lia) gb fun v hv tr2 fs2=>?_)
 dsimp only;have tr2':∀i g,sa+na<=i->i<sa+na+v->γ[i]?=some g->c g x=true:=fun i g z1 z2 z3=>by simpa[bb]using tr2 i g z1 z2 z3
 have fs2':∀i g,sa+na+v<=i->i<sa+na+nb->γ[i]?=some g->c g x=false:=fun i g z1 z2 z3=>by simpa[bb]using fs2 i g z1 z2 z3
 by_cases e4:(v == 0)=true
 ·refine eO e4 ?_;have e4':v=0:=eq_of_beq e4;refine wpS_pure (q st1 γ (idle (fun i j g h z1 z2 z3 z4 z5 z6=>?_) st1 a1 k1 f1) pd1);exact C.letr (ax i g z1 z2 z5) (fs2' j h (by lia) z4 z6)
 refine dY e4 ?_;have e4':v≠0:=fun z=>e4 (by rw[z];rfl)
 have ex:(γ.map f).extract (sa+u) (sa+na)=ar f (pc γ (sa+u) (na-u)):=by
  have:=CJ (γ:=γ) (f:=f) (sa+u) (na-u);rwa [eu]at this
 have ey:(γ.map f).extract (sa+na) (sa+na+v)=ar f (pc γ (sa+na) v):=CJ _ _;rw[ex,ey];have T:Two c N (pc γ (sa+u) (na-u)) (pc γ (sa+na) v):=by
  refine⟨vD fun i j g h z1 z2 z3=>ga i j g h (by lia) z2 (by lia),vD fun i j g h z1 z2 z3=>gb i j g h z1 z2 (by lia),fun g hg h hh=>?_,fun g hg=>?_,fun g hg=>?_,fun z=>?_,fun z=>?_,fun x' y' z1 z2=>?_,fun x' z1 g hg=>?_⟩
  ·obtain⟨i,y1,y2,y3⟩:=fF hg;obtain⟨j,y4,y5,y6⟩:=fF hh;exact tagab i j g h (by lia) (by lia) y4 (by lia) y3 y6
  ·obtain⟨i,y1,y2,y3⟩:=fF hg;exact bnd i g y3
  ·obtain⟨i,y1,y2,y3⟩:=fF hg;exact bnd i g y3
  ·have:=jV (γ:=γ) (lo:=sa+u) (n:=na-u) (by lia)
   rw[z]at this;simp at this;lia
  ·have:=jV (γ:=γ) (lo:=sa+na) (n:=v) (by lia)
   rw[z]at this;simp at this;lia
  ·rw[vC (by lia)]at z1 z2
   rw[Nat.add_zero]at z1 z2;rw[ht]at z2;cases z2;exact fs' (sa+u) x' (Va _) (by lia) z1
  ·rw[jV (by lia),vC (Nat.sub_lt (Nat.pos_of_ne_zero e3') Nat.one_pos),show sa+u+(na - u - 1)=sa+na - 1 by rw[← Nat.add_sub_assoc (Nat.pos_of_ne_zero e3'),eu],hx]at z1
   cases z1;obtain⟨i,y1,y2,y3⟩:=fF hg;exact tr2' i g y1 y2 y3
 have fin:∀(o:Array Keyed)(st2:SortSt),Sm st1 st2->Rt f c (pc γ (sa+u) (na-u)) (pc γ (sa+na) v) o->∀st3:SortSt,arrOf st3=o.toList.zipIdx.foldl (fun a (p:Keyed×Nat)=>a.setIfInBounds (sa+u+p.2) p.1) (arrOf st2)->kindOf st3=kindOf st2->pendingOf st3=pendingOf st2->failedOf st3=failedOf st2 ->
   ∃γ',Mtd k f N c γ sa (na+nb) st3 γ':=fun o st2 sm2 rt st3 a3 k3 _ f3=>by
  obtain⟨l,rfl,gd⟩:=rt;have hl:l.length=na-u+v:=by rw[gd.2.length_eq,Xa,jV (by lia),jV (by lia)]
  have sp:pc γ sa (na+nb)=pc γ sa u++(pc γ (sa+u) (na-u)++pc γ (sa+na) v)++pc γ (sa+na+v) (nb-v):=by
   have h1:na+nb=u+((na-u)+(v+(nb-v))):=by rw[Wl hv,← Nat.add_assoc,Wl hu]
   rw[h1,nY,nY (sa+u),nY (sa+u+(na - u)),eu];simp
  have pX:(pc γ sa u++l++pc γ (sa+na+v) (nb-v)).Perm (pc γ sa (na+nb)):=by
   rw[sp];exact(gd.2.append_left _).append_right _
  have hX:(pc γ sa u++l++pc γ (sa+na+v) (nb-v)).length=na+nb:=by rw[pX.length_eq,jV (by lia)]
  let γ':Array Nat:=(γ.toList.take sa++(pc γ sa u++l++pc γ (sa+na+v) (nb-v))++γ.toList.drop (sa+(na+nb))).toArray
  have eγ:γ'.toList=γ.toList.take sa++(pc γ sa u++l++pc γ (sa+na+v) (nb-v))++γ.toList.drop (sa+(na+nb)):=rfl;obtain⟨n1,n2,n3⟩:=wX (γ:=γ) (lo:=sa) (n:=na+nb) (by lia) pX eγ
  have pw:(pc γ sa u++l++pc γ (sa+na+v) (nb-v)).Pairwise (Bf c):=by
   have inl:∀h∈l,(∃i,sa+u<=i/\i<sa+na/\γ[i]?=some h)∨∃j,sa+na<=j/\j<sa+na+v/\γ[j]?=some h:=fun h hh=>by
    rcases Xc.mp (gd.2.mem_iff.mp hh) with hh|hh
    ·obtain⟨i,y1,y2,y3⟩:=fF hh;exact .inl ⟨i,y1,by lia,y3⟩
    ·obtain⟨i,y1,y2,y3⟩:=fF hh;exact .inr ⟨i,y1,y2,y3⟩
   rw[Qi,Qi];refine⟨⟨vD fun i j g h z1 z2 z3=>ga i j g h z1 z2 (by lia),gd.1,fun g hg h hh=>?_⟩,vD fun i j g h z1 z2 z3=>gb i j g h (by lia) z2 (by lia),fun g hg h hh=>?_⟩
   ·obtain⟨i,y1,y2,y3⟩:=fF hg;rcases inl h hh with⟨j,y4,y5,y6⟩|⟨j,y4,y5,y6⟩
    ·exact ga i j g h y1 (by lia) y5 y3 y6
    ·exact .inr ⟨C.letr (tr' i g y1 y2 y3) (tb j h y4 (by lia) y6),tagab i j g h y1 (by lia) y4 (by lia) y3 y6⟩
   ·obtain⟨j,y4,y5,y6⟩:=fF hh;rcases Xc.mp hg with hg|hg
    ·obtain⟨i,y1,y2,y3⟩:=fF hg;exact .inr ⟨C.letr (ax i g y1 (by lia) y3) (fs2' j h y4 (by lia) y6),tagab i j g h y1 (by lia) (by lia) (by lia) y3 y6⟩
    ·rcases inl g hg with⟨i,y1,y2,y3⟩|⟨i,y1,y2,y3⟩
     ·exact .inr ⟨C.letr (ax i g (by lia) y2 y3) (fs2' j h y4 (by lia) y6),tagab i j g h (by lia) y2 (by lia) (by lia) y3 y6⟩
     ·exact gb i j g h y1 (by lia) (by lia) y3 y6
  refine⟨γ',⟨?_,(k3.trans sm2.kind).trans hk1,(f3.trans sm2.fine).trans (f1.trans R.fine),n1.trans R.perm⟩,Ei hX n3 pw,Ej n3 fun g hg=>?_,n2⟩
  ·have ar1:arrOf st2=γ.map f:=(sm2.arr.trans a1).trans R.arr;rw[a3,ar1];apply Array.toList_inj.mp;have:=sC (sa+u) (ar f l).toList 0 (γ.map f) (by rw[Zn,hsz];simp[ar,hl];lia)
   rw[Nat.add_zero]at this;rw[this];have el:(ar f l).toList=l.map f:=by simp[ar]
   rw[el,Ya,hl,Array.toList_map,Array.toList_map,eγ];rw[← List.map_take,← List.map_drop,← Vc,← Vc];congr 1;have t1:γ.toList.take (sa+u)=γ.toList.take sa++pc γ sa u:=by
    unfold pc;rw[List.take_add]
   have t2:γ.toList.drop (sa+u+(na-u+v))=pc γ (sa+na+v) (nb-v)++γ.toList.drop (sa+(na+nb)):=by
    unfold pc;have h:=Xi (nb-v) (γ.toList.drop (sa+na+v));rw[List.drop_drop,show sa+na+v+(nb - v)=sa+(na+nb) by rw[Nat.add_assoc,Wl hv,Nat.add_assoc]]at h
    rw[show sa+u+(na - u+v)=sa+na+v by rw[← Nat.add_assoc,eu],h]
   rw[t1,t2];simp
  ·have hg':=pX.mem_iff.mp hg;obtain⟨i,y1,y2,y3⟩:=fF hg';by_cases hi:i<sa+na
   ·have:=oa i g y1 hi y3;lia
   ·have:=ob i g (by lia) (by lia) y3;lia
 by_cases e5:na-u<=v
 ·refine eO e5 ?_;refine wpS_bind (Eg C hk1 T fun o st2 sm2 rt=>?_);refine wpS_bind (wpS_mono (Q:=fun _ st3=>arrOf st3=o.toList.zipIdx.foldl (fun a (p:Keyed×Nat)=>a.setIfInBounds (sa+u+p.2) p.1) (arrOf st2)/\kindOf st3=kindOf st2/\pendingOf st3=pendingOf st2/\failedOf st3=failedOf st2) (wpS_modify ⟨rfl,rfl,rfl,rfl⟩) ?_);rintro _ st3 ⟨a3,k3,p3,f3⟩;obtain⟨γ',M⟩:=fin o st2 sm2 rt st3 a3 k3 p3 f3;refine wpS_bind (wpS_get ?_);have hf:failedOf st3=none:=M.rp.fine;have:=q st3 γ' M (p3.trans (sm2.pend.trans pd1));refine wpS_pure ?_;rw[show((sortPriv% PySem.Builtin.SortState.failed) st3).isNone=true by rw[show(sortPriv% PySem.Builtin.SortState.failed) st3=none from hf];rfl]
  exact this
 ·refine dY e5 ?_;refine wpS_bind (Eh C hk1 T fun o st2 sm2 rt=>?_);refine wpS_bind (wpS_mono (Q:=fun _ st3=>arrOf st3=o.toList.zipIdx.foldl (fun a (p:Keyed×Nat)=>a.setIfInBounds (sa+u+p.2) p.1) (arrOf st2)/\kindOf st3=kindOf st2/\pendingOf st3=pendingOf st2/\failedOf st3=failedOf st2) (wpS_modify ⟨rfl,rfl,rfl,rfl⟩) ?_);rintro _ st3 ⟨a3,k3,p3,f3⟩;obtain⟨γ',M⟩:=fin o st2 sm2 rt st3 a3 k3 p3 f3;refine wpS_bind (wpS_get ?_);have hf:failedOf st3=none:=M.rp.fine;have:=q st3 γ' M (p3.trans (sm2.pend.trans pd1));refine wpS_pure ?_;rw[show((sortPriv% PySem.Builtin.SortState.failed) st3).isNone=true by rw[show(sortPriv% PySem.Builtin.SortState.failed) st3=none from hf];rfl]
  exact this
end
end TS
namespace TS
open PySem PyProof.Rows
noncomputable def GT:StateT SortSt Sem Unit:=sortPriv% PySem.Builtin.sortRuns
noncomputable abbrev Run:=Nat×Nat×Nat
noncomputable def Cv(c:Nat->Nat->Bool)(γ:Array Nat):Nat->List Run->Nat->Prop
 | a,[],b=>a=b
 | a,r::l,b=>r.1=a/\1<=r.2.1/\Sg c γ a (a+r.2.1)/\Ow γ a (a+r.2.1)/\Cv c γ (a+r.2.1) l b
section
variable {prog:Program}{w:World}{A:Around}{E:Value->Shared->Prop}{s:Shared}{k:SortKind}{f:Nat->Keyed}{N:Nat}{c:Nat->Nat->Bool}{st:SortSt}{γ γ':Array Nat}
theorem Cv.le:∀{l:List Run}{a b:Nat},Cv c γ a l b->a+l.length<=b
 | [],a,b,h=>by cases h;simp
 | r::l,a,b,h=>by
  have:=Cv.le h.2.2.2.2;have:=h.2.1;rw[Qd];lia
theorem Cv.congr:∀{l:List Run}{a b:Nat},Cv c γ a l b->(∀i,a<=i->i<b->γ'[i]?=γ[i]?)->Cv c γ' a l b
 | [],a,b,h,_=>h
 | r::l,a,b,⟨h1,h2,h3,h4,h5⟩,e=>by
  have hb:=Cv.le h5;refine⟨h1,h2,fun i j g h z1 z2 z3 z4 z5=>h3 i j g h z1 z2 z3 (by rw[← e i z1 (by lia)];exact z4) (by rw[← e j (by lia) (by lia)];exact z5),fun i g z1 z2 z3=>h4 i g z1 z2 (by rw[← e i z1 (by lia)];exact z3),Cv.congr h5 fun i z1 z2=>e i (by lia) z2⟩
theorem Cv.app:∀{l m:List Run}{a b:Nat},Cv c γ a (l++m) b↔∃d,Cv c γ a l d/\Cv c γ d m b
 | [],m,a,b=>⟨fun h=>⟨a,rfl,h⟩,fun⟨d,h1,h2⟩=>by cases h1;exact h2⟩
 | r::l,m,a,b=>by
  constructor
  ·rintro⟨h1,h2,h3,h4,h5⟩;obtain⟨d,h6,h7⟩:=Cv.app.mp h5;exact⟨d,⟨h1,h2,h3,h4,h6⟩,h7⟩
  ·rintro⟨d,⟨h1,h2,h3,h4,h6⟩,h7⟩;exact⟨h1,h2,h3,h4,Cv.app.mpr ⟨d,h6,h7⟩⟩
structure Sr(k:SortKind)(f:Nat->Keyed)(N:Nat)(c:Nat->Nat->Bool)(lo:Nat)(δ:Array Nat)(st:SortSt)(γ:Array Nat):Prop where
 rp:Rp k f N st γ
 cv:Cv c γ 0 (pendingOf st).toList lo
 tl:∀i,lo<=i->γ[i]?=δ[i]?
 le:lo<=N
theorem Em{l:List Run}{i:Nat}(h:i+1<l.length):∃l1 r1 r2 l2,l=l1++r1::r2::l2/\l1.length=i:=by
 refine⟨l.take i,l[i],l[i+1],l.drop (i+2),?_,by rw[Qk];lia⟩
 have h1:=Xi i l;rw[Wm (by lia:i<l.length),Wm (by lia:i+1<l.length)]at h1
 exact h1.symm
theorem wY(l1 l2:List Run)(r1 r2 r:Run):((l1++r1::r2::l2).set l1.length r).eraseIdx (l1.length+1)=l1++r::l2:=by
 rw[List.set_append_right _ _ (Va _),Nat.sub_self,List.set_cons_zero,List.eraseIdx_append_of_length_le (by lia)]
 congr 1;rw[show l1.length+1 - l1.length=1 by lia];rfl
theorem sD(C:Cm prog w A s k f N c){lo i:Nat}{δ:Array Nat}(S:Sr k f N c lo δ st γ)(hi:i+1<(pendingOf st).size){Q:Bool->SortSt->Prop}
  (q:∀st' γ',Sr k f N c lo δ st' γ'->(pendingOf st').size+1=(pendingOf st).size->Q true st'):wpS (model prog w) A E s ((sortPriv% PySem.Builtin.mergeAt) i) Q st:=by
 obtain⟨l1,⟨sa,na,p1⟩,⟨sb,nb,p2⟩,l2,hl,hl1⟩:=Em (l:=(pendingOf st).toList) (i:=i) (by rw[Yc];exact hi)
 have cv:=S.cv;rw[hl]at cv;obtain⟨d,c1,c2⟩:=Cv.app.mp cv;obtain⟨h1,h2,h3,h4,h5,h6,h7,h8,h9⟩:=c2;dsimp only at h1 h2 h3 h4 h5 h6 h7 h8 h9;subst h1 h5;have hle:=Cv.le h9;have hN:=S.le;have e1:(pendingOf st)[i]?=some (sa,na,p1):=by rw[← Wg,hl,← hl1,Ye (Va _),Nat.sub_self];rfl
 have e2:(pendingOf st)[i+1]?=some (sa+na,nb,p2):=by rw[← Wg,hl,← hl1,Ye (by lia),show l1.length+1 - l1.length=1 by lia];rfl
 refine Ek C S.rp e1 e2 h2 h6 (by lia) h3 h4 h7 h8 fun st' γ' M pd=>?_
 have out:∀i,i<sa∨sa+(na+nb)<=i->γ'[i]?=γ[i]?:=M.out;have hp:(pendingOf st').toList=l1++(sa,na+nb,p1)::l2:=by
  rw[pd,Array.toList_eraseIdxIfInBounds,Array.toList_setIfInBounds,hl,← hl1,wY]
 refine q st' γ' ⟨M.rp,?_,fun i z1=>?_,S.le⟩ ?_
 ·rw[hp];refine Cv.app.mpr ⟨sa,c1.congr fun i z1 z2=>out i (.inl z2),rfl,by show 1<=na+nb;lia,M.sg,M.ow,?_⟩
  show Cv c γ' (sa+(na+nb)) l2 lo;rw[← Nat.add_assoc];exact h9.congr fun i z1 z2=>out i (.inr (by lia))
 ·rw[out i (.inr (by lia))];exact S.tl i z1
 ·have a1:(pendingOf st').size=(l1++(sa,na+nb,p1)::l2).length:=by rw[← hp,Yc]
  have a2:(pendingOf st).size=(l1++(sa,na,p1)::(sa+na,nb,p2)::l2).length:=by rw[← hl,Yc]
  rw[a1,a2];simp only[Xa,Qd];lia
theorem Cv.modify{g:Run->Run}(hg:∀r,(g r).1=r.1/\(g r).2.1=r.2.1):∀{l:List Run}{i a b:Nat},Cv c γ a l b->Cv c γ a (l.modify i g) b
 | [],i,a,b,h=>by simpa using h
 | r::l,0,a,b,⟨h1,h2,h3,h4,h5⟩=>by
  rw[List.modify_zero_cons];have:=hg r;exact⟨this.1.trans h1,by rw[this.2];exact h2,by rw[this.2];exact h3,by rw[this.2];exact h4,by rw[this.2];exact h5⟩
 | r::l,i+1,a,b,⟨h1,h2,h3,h4,h5⟩=>by
  rw[List.modify_succ_cons];exact⟨h1,h2,h3,h4,Cv.modify hg h5⟩
theorem Ep(C:Cm prog w A s k f N c)(R:Rp k f N st γ){lo n ok:Nat}(hn:lo+n<=N)(h1:1<=ok)(hok:ok<=n)(sg:Sg c γ lo (lo+ok))(ow:Ow γ lo (lo+ok))(raw:Raw γ (lo+ok) N)
  {Q:Bool->SortSt->Prop}(q:∀(x:Array Keyed)(γ':Array Nat),Rp k f N (setArr st x) γ'->Sg c γ' lo (lo+n)->Ow γ' lo (lo+n)->Raw γ' (lo+n) N->Out γ γ' lo (lo+n)->Q true (setArr st x)) :
  wpS (model prog w) A E s ((sortPriv% PySem.Builtin.binarySort) lo n ok) Q st:=Bv C R hn h1 hok sg ow raw q
theorem Er(C:Cm prog w A s k f N c)(R:Rp k f N st γ){lo:Nat}(hl:lo<N)(raw:Raw γ lo N)
  {Q:Option Nat->SortSt->Prop}(q:∀n st',1<=n->lo+n<=N->Rn k f N c lo st γ n st'->Q (some n) st'):wpS (model prog w) A E s ((sortPriv% PySem.Builtin.countRun) lo (N-lo)) Q st:=Ee C R hl raw q
theorem zf{M:Model}{σ γ:Type}{X:StateT σ Sem γ}{B:Nat->StateT σ Sem γ}{p:Prop}{d:Decidable p}{n:Nat}{Q:γ->σ->Prop}{st:σ}(I:Nat->σ->Prop)
  (h:p->(∀n st,I n st->wpS M A E s (B n) Q st)->wpS M A E s X Q st)(g:¬ p->I n st)(hB:∀n st,I n st->wpS M A E s (B n) Q st):wpS M A E s (@ite _ p d X (B n)) Q st:=eM (fun z=>h z hB) fun z=>hB _ _ (g z)
set_option tactic.hygienic true in
theorem vE(C:Cm prog w A s k f N c)(R:Rp k f N st γ)(hp:pendingOf st=#[])(raw:Raw γ 0 N){Q:Unit->SortSt->Prop}(q:∀st' γ',Rp k f N st' γ'->Sg c γ' 0 N->Q ⟨⟩ st'):wpS (model prog w) A E s GT Q st:=by
 have hsz:((sortPriv% PySem.Builtin.SortState.a) st).size=N:=by
  have:=congrArg Array.size R.arr;rw[Zn,R.size]at this;exact this
 refine wpS_bind (wpS_get ?_);dsimp only;rw[hsz];refine wpS_bind (wpS_mono (wpS_forRange (I:=fun x r st'=>∃lo,r=(none,lo)/\x<=lo/\∃γ',Sr k f N c lo γ' st' γ'/\Raw γ' lo N) (Q:=fun r st'=>r=(none,N)/\∃γ',Sr k f N c N γ' st' γ') ?step ?fin ?init) ?post)
 case init=>exact⟨0,rfl,Va _,γ,⟨R,by rw[hp];rfl,fun _ _=>rfl,Wh _⟩,raw⟩
 case fin =>
  rintro r st' ⟨lo,rfl,hx,γ',S,rw'⟩;have:=S.le;obtain rfl:lo=N:=by lia
  exact⟨rfl,γ',S⟩
 case step =>
  rintro x r st' _ hxN ⟨lo,rfl,hx,γ',S,raw'⟩;dsimp only;by_cases hl:lo ≥ N
  ·refine eO hl ?_;have:=S.le;obtain rfl:lo=N:=by lia
   exact wpS_pure ⟨rfl,γ',S⟩
  refine dY hl ?_;refine wpS_bind (Er C S.rp (by lia) raw' fun n st1 hn1 hn2 rn=>?_)
  dsimp only;apply zf (n:=n) (I:=fun n st1=>∃γ1,Rp k f N st1 γ1/\pendingOf st1=pendingOf st'/\1<=n/\lo+n<=N/\Sg c γ1 lo (lo+n)/\Ow γ1 lo (lo+n)/\Raw γ1 (lo+n) N/\Out γ' γ1 lo (lo+n))
  case g =>
   obtain⟨xa,γ1,hst1,R1,sg1,ow1,raw1,out1⟩:=rn;exact fun _=>⟨γ1,R1,by rw[hst1],hn1,hn2,sg1,ow1,raw1,out1⟩
  case h =>
   intro hm key;obtain⟨xa,γ1,hst1,R1,sg1,ow1,raw1,out1⟩:=rn;refine wpS_bind (wpS_lift (wpAny_rule ⟨rfl,?_⟩));generalize hm2:min (N-lo) ((sortPriv% PySem.Builtin.minRun) N N 0)=n2;have hn3:n<=n2:=by rw[← hm2];lia
   have hn4:lo+n2<=N:=by rw[← hm2];lia
   exact wpS_bind (Ep C R1 hn4 hn1 hn3 sg1 ow1 raw1 fun xb γ2b R2 sg2 ow2 raw2 out2=>dY (by decide) (key n2 _ ⟨γ2b,R2,by rw[hst1],Xe hn1 hn3,hn4,sg2,ow2,raw2,fun i hi=>(out2 i hi).trans (out1 i (by lia))⟩))
  clear rn hn1 hn2;intro n st1 hJ;obtain⟨γ1,hJ⟩:=hJ;have R1:=hJ.1;have pd1:=hJ.2.1;have hn1:=hJ.2.2.1;have hn2:=hJ.2.2.2.1;have sg1:=hJ.2.2.2.2.1;have ow1:=hJ.2.2.2.2.2.1;have raw1:=hJ.2.2.2.2.2.2.1;have out1:=hJ.2.2.2.2.2.2.2;refine wpS_bind (wpS_get ?_);have cv1:Cv c γ1 0 (pendingOf st1).toList lo:=by rw[pd1];exact S.cv.congr fun i _ z2=>out1 i (.inl z2)
  have S1:Sr k f N c lo γ1 st1 γ1:=⟨R1,cv1,fun _ _=>rfl,S.le⟩;have push:∀(st2:SortSt)(γ2:Array Nat),Sr k f N c lo γ1 st2 γ2->∀st3:SortSt,arrOf st3=arrOf st2->kindOf st3=kindOf st2->failedOf st3=failedOf st2->pendingOf st3=(pendingOf st2).push (lo,n,0)->∃γ',Sr k f N c (lo+n) γ' st3 γ'/\Raw γ' (lo+n) N:=fun st2 γ2 S2 st3 a3 k3 f3 p3=>by
   refine⟨γ2,⟨⟨a3.trans S2.rp.arr,k3.trans S2.rp.kind,f3.trans S2.rp.fine,S2.rp.perm⟩,?_,fun _ _=>rfl,hn2⟩,fun i z1 z2=>?_⟩
   ·rw[p3,Array.toList_push];refine Cv.app.mpr ⟨lo,S2.cv,rfl,hn1,fun i j g h z1 z2 z3 z4 z5=>?_,fun i g z1 z2 z3=>?_,rfl⟩
    ·exact sg1 i j g h z1 z2 z3 (by rw[← S2.tl i z1];exact z4) (by rw[← S2.tl j (by lia)];exact z5)
    ·exact ow1 i g z1 z2 (by rw[← S2.tl i z1];exact z3)
   ·rw[S2.tl i (by lia)];exact raw1 i z1 z2
  split
  ·rename_i s1 n1 sd hback
   refine wpS_bind (wpS_mono (wpS_forRange (I:=fun _ r st2=>r=(none,())/\∃γ2,Sr k f N c lo γ1 st2 γ2) (Q:=fun r st2=>r=(none,())/\∃γ2,Sr k f N c lo γ1 st2 γ2) ?step2 ?fin2 ?init2) ?post2)
   case init2=>exact⟨rfl,γ1,S1⟩
   case fin2=>exact fun r st2 h=>h
   case step2 =>
    rintro y r st2 _ _ ⟨rfl,γ2,S2⟩;refine wpS_bind (wpS_get ?_);split
    ·rename_i o1 o2 older hold
     have hsz2:(pendingOf st2).size > 1:=by
      by_cases hz:(pendingOf st2).size > 1
      ·exact hz
      ·rw[if_neg hz]at hold;cases hold
     by_cases ho:older<=(sortPriv% PySem.Builtin.power) N (2*s1+n1) (2*s1+n1+n1+n) N
     ·refine eO ho ?_;exact wpS_pure ⟨rfl,γ2,S2⟩
     ·refine dY ho ?_;refine wpS_bind (sD C S2 (i:=(pendingOf st2).size-2) (by lia) fun st3 γ3 S3 _=>?_)
      exact wpS_pure ⟨rfl,γ3,S3⟩
    ·exact wpS_pure ⟨rfl,γ2,S2⟩
   case post2 =>
    rintro r st2 ⟨rfl,γ2,S2⟩;dsimp only;refine wpS_bind (wpS_mono (Q:=fun _ st3=>∃γ3,Sr k f N c lo γ1 st3 γ3) (wpS_modify ⟨γ2,⟨S2.rp.arr,S2.rp.kind,S2.rp.fine,S2.rp.perm⟩,?_,S2.tl,S2.le⟩) ?_)
    ·show Cv c γ2 0 ((pendingOf st2).modify ((pendingOf st2).size-1) _).toList lo;rw[Array.toList_modify];refine Cv.modify (g:=fun x=>(x.1,x.2.1,_)) (fun r=>?_) S2.cv;exact⟨rfl,rfl⟩
    rintro _ st3 ⟨γ3,S3⟩;refine wpS_bind (wpS_mono (Q:=fun _ st4=>∃γ',Sr k f N c (lo+n) γ' st4 γ'/\Raw γ' (lo+n) N) (wpS_modify (push st3 γ3 S3 _ rfl rfl rfl rfl)) ?_);rintro _ st4 ⟨γ4,S4,raw4⟩;exact wpS_pure ⟨_,rfl,by lia,γ4,S4,raw4⟩
  ·refine wpS_bind (wpS_mono (Q:=fun _ st4=>∃γ',Sr k f N c (lo+n) γ' st4 γ'/\Raw γ' (lo+n) N) (wpS_modify (push st1 γ1 S1 _ rfl rfl rfl rfl)) ?_);rintro _ st4 ⟨γ4,S4,raw4⟩;exact wpS_pure ⟨_,rfl,by lia,γ4,S4,raw4⟩
 case post =>
  rintro r st' ⟨rfl,γ',S⟩;dsimp only;refine wpS_bind (wpS_mono (wpS_forRange (I:=fun x r st2=>r=(none,())/\∃γ2,Sr k f N c N γ' st2 γ2/\(pendingOf st2).size+x<=N) (Q:=fun r st2=>r=(none,())/\∃γ2,Sr k f N c N γ' st2 γ2/\(pendingOf st2).size<=1) ?step3 ?fin3 ?init3) ?post3)
  case init3 =>
   refine⟨rfl,γ',S,?_⟩;have:=S.cv.le;rw[Yc]at this;lia
  case fin3 =>
   rintro r st2 ⟨rfl,γ2,S2,hz⟩;exact⟨rfl,γ2,S2,by lia⟩
  case step3 =>
   rintro y r st2 _ _ ⟨rfl,γ2,S2,hz⟩;refine wpS_bind (wpS_get ?_);by_cases h1:((sortPriv% PySem.Builtin.SortState.pending) st2).size<=1
   ·refine eO h1 ?_;exact wpS_pure ⟨rfl,γ2,S2,h1⟩
   refine dY h1 ?_;have h1':¬ (pendingOf st2).size<=1:=h1;refine wpS_bind (sD C S2 ?_ fun st3 γ3 S3 hs3=>wpS_pure ⟨rfl,γ3,S3,by lia⟩)
   have pick:∀(p:Prop) [Decidable p],(if p then(pendingOf st2).size-2-1 else(pendingOf st2).size-2)+1<(pendingOf st2).size:=fun p _=>by
    split<;>lia
   exact pick _
  case post3 =>
   rintro r st2 ⟨rfl,γ2,S2,hz⟩;dsimp only;refine wpS_pure (q st2 γ2 S2.rp ?_);have cv:=S2.cv;rw[← Yc]at hz;generalize (pendingOf st2).toList=l at cv hz;cases l with
   | nil =>
    have:0=N:=cv;subst this;exact fun i j g h z1 z2 z3=>by lia
   | cons r l =>
    cases l with
    | cons _ _=>simp at hz
    | nil =>
     obtain⟨h1,h2,h3,h4,h5⟩:=cv;have e:0+r.2.1=N:=h5;rw[e]at h3;exact h3
end
end TS
namespace VF
open PySem L2
open Classical in
noncomputable def ltL(lt:D->D->Bool):List D->List D->Bool
 | [],[]=>false
 | [],_::_=>true
 | _::_,[]=>false
 | x::xs,y::ys=>if x=y then ltL lt xs ys else lt x y
noncomputable def ltN:Nat->D->D->Bool
 | 0,_,_=>false
 | _+1,.int i,.int j=>decide (i<j)
 | _+1,.str x,.str y=>decide (x.cps.toList<y.cps.toList)
 | n+1,.tup xs,.tup ys=>ltL (ltN n) xs ys
 | _+1,_,_=>false
noncomputable def Cp:Nat->D->D->Prop
 | 0,_,_=>False
 | _+1,.int _,.int _=>True
 | _+1,.str _,.str _=>True
 | n+1,.tup xs,.tup ys=>∀(i:Nat) x y,xs[i]?=some x->ys[i]?=some y->Cp n x y
 | _+1,_,_=>False
theorem vF{lt:D->D->Bool}:∀(xs:List D),ltL lt xs xs=false
 | []=>rfl
 | x::xs=>by
  unfold ltL;rw[if_pos rfl];exact vF xs
theorem mY:∀(n:Nat)(a:D),ltN n a a=false
 | 0,_=>rfl
 | n+1,a=>by
  cases a with
  | int i=>exact decide_eq_false (Int.lt_irrefl i)
  | str x=>exact decide_eq_false (List.lt_irrefl _)
  | tup xs=>exact vF xs
  | _=>rfl
structure Or(n:Nat):Prop where
 tri:∀{a b:D},Cp n a b->a=b∨ltN n a b=true∨ltN n b a=true
 tra:∀{a b c:D},Cp n a b->Cp n b c->Cp n a c->ltN n a b=true->ltN n b c=true->ltN n a c=true
noncomputable abbrev Cl(n:Nat)(xs ys:List D):Prop:=∀(i:Nat) x y,xs[i]?=some x->ys[i]?=some y->Cp n x y
theorem Cl.tail{n:Nat}{x y:D}{xs ys:List D}(h:Cl n (x::xs) (y::ys)):Cl n xs ys:=fun i a b e1 e2=>h (i+1) a b (by simpa using e1) (by simpa using e2)
theorem Cl.head{n:Nat}{x y:D}{xs ys:List D}(h:Cl n (x::xs) (y::ys)):Cp n x y:=h 0 x y rfl rfl
open Classical in
theorem bX{lt:D->D->Bool}{x:D}{xs ys:List D}:ltL lt (x::xs) (x::ys)=ltL lt xs ys:=by
 show(if x=x then ltL lt xs ys else lt x x)=_;rw[if_pos rfl]
open Classical in
theorem bm{lt:D->D->Bool}{x y:D}{xs ys:List D}(h:x≠y):ltL lt (x::xs) (y::ys)=lt x y:=by
 show(if x=y then ltL lt xs ys else lt x y)=_;rw[if_neg h]
theorem vG{n:Nat}(O:Or n):∀{xs ys:List D},Cl n xs ys->xs=ys∨ltL (ltN n) xs ys=true∨ltL (ltN n) ys xs=true
 | [],[],_=>.inl rfl
 | [],_::_,_=>.inr (.inl rfl)
 | _::_,[],_=>.inr (.inr rfl)
 | x::xs,y::ys,h=>by
  by_cases e:x=y
  ·subst e;rw[bX,bX];rcases vG O h.tail with q|q
   ·exact .inl (by rw[q])
   ·exact .inr q
  ·rw[bm e,bm (Ne.symm e)];rcases O.tri h.head with q|q
   ·exact absurd q e
   ·exact .inr q
theorem vH{n:Nat}(O:Or n):∀{xs ys zs:List D},Cl n xs ys->Cl n ys zs->Cl n xs zs->ltL (ltN n) xs ys=true->ltL (ltN n) ys zs=true->ltL (ltN n) xs zs=true
 | [],[],[],_,_,_,h1,_=>h1
 | [],_::_,[],_,_,_,_,h2=>h2
 | [],_,_::_,_,_,_,_,_=>rfl
 | _::_,[],_,_,_,_,h1,_=>by cases h1
 | _::_,_::_,[],_,_,_,_,h2=>by cases h2
 | x::xs,y::ys,z::zs,c1,c2,c3,h1,h2=>by
  by_cases e1:x=y
  ·subst e1;rw[bX]at h1;by_cases e2:x=z
   ·subst e2;rw[bX]at h2 ⊢;exact vH O c1.tail c2.tail c3.tail h1 h2
   ·rw[bm e2]at h2 ⊢;exact h2
  ·rw[bm e1]at h1;by_cases e2:y=z
   ·subst e2;rw[bm e1];exact h1
   ·rw[bm e2]at h2;have h3:=O.tra c1.head c2.head c3.head h1 h2;have e3:x≠z:=fun e=>by subst e;rw[mY]at h3;cases h3
    rw[bm e3];exact h3
theorem lJ:∀n,Or n
 | 0=>⟨fun h=>h.elim,fun h=>h.elim⟩
 | n+1=>by
  have O:=lJ n;refine⟨fun {a b} h=>?_,fun {a b c} h1 h2 h3 l1 l2=>?_⟩
  ·cases a with
   | int i =>
    cases b with
    | int j =>
     rcases Int.lt_trichotomy i j with q|q|q
     ·exact .inr (.inl (decide_eq_true q))
     ·exact .inl (by rw[q])
     ·exact .inr (.inr (decide_eq_true q))
    | _=>exact h.elim
   | str x =>
    cases b with
    | str y =>
     by_cases q:x.cps.toList<y.cps.toList
     ·exact .inr (.inl (decide_eq_true q))
     ·by_cases q':y.cps.toList<x.cps.toList
      ·exact .inr (.inr (decide_eq_true q'))
      ·refine .inl ?_;have:=yN (a:=x) (b:=y) q' q;rw[this]
    | _=>exact h.elim
   | tup xs =>
    cases b with
    | tup ys =>
     rcases vG O h with q|q
     ·exact .inl (by rw[q])
     ·exact .inr q
    | _=>exact h.elim
   | _=>exact h.elim
  ·cases a with
   | int i =>
    cases b with
    | int j =>
     cases c with
     | int k =>
      have q1:=of_decide_eq_true l1;have q2:=of_decide_eq_true l2;exact decide_eq_true (Int.lt_trans q1 q2)
     | _=>exact h2.elim
    | _=>exact h1.elim
   | str x =>
    cases b with
    | str y =>
     cases c with
     | str z =>
      have q1:=of_decide_eq_true l1;have q2:=of_decide_eq_true l2;exact decide_eq_true (List.lt_trans q1 q2)
     | _=>exact h2.elim
    | _=>exact h1.elim
   | tup xs =>
    cases b with
    | tup ys =>
     cases c with
     | tup zs=>exact vH O h1 h2 h3 l1 l2
     | _=>exact h2.elim
    | _=>exact h1.elim
   | _=>exact h1.elim
theorem vI{lt:D->D->Bool}(h:∀a b,lt a b=true->lt b a=false):∀(xs ys:List D),ltL lt xs ys=true->ltL lt ys xs=false
 | [],[],l=>by cases l
 | [],_::_,_=>rfl
 | _::_,[],l=>by cases l
 | x::xs,y::ys,l=>by
  by_cases e:x=y
  ·subst e;rw[bX]at l ⊢;exact vI h xs ys l
  ·rw[bm e]at l;rw[bm (Ne.symm e)];exact h x y l
theorem qH:∀(n:Nat)(a b:D),ltN n a b=true->ltN n b a=false
 | 0,_,_,l=>by cases l
 | n+1,a,b,l=>by
  cases a with
  | int i =>
   cases b with
   | int j =>
    have q:=of_decide_eq_true l;exact decide_eq_false (by lia)
   | _=>cases l
  | str x =>
   cases b with
   | str y =>
    have q:=of_decide_eq_true l;exact decide_eq_false (List.lt_asymm q)
   | _=>cases l
  | tup xs =>
   cases b with
   | tup ys=>exact vI (qH n) xs ys l
   | _=>cases l
  | _=>cases l
noncomputable def Srt(n:Nat)(es:List D):Prop:=es.Pairwise fun a b=>ltN n b a=false
open Classical in
noncomputable def dZ(n:Nat)(ds:List D):List D:=if h:∃es:List D,es.Perm ds/\Srt n es then h.choose else ds
set_option tactic.hygienic true in
theorem nZ(n:Nat)(ds:List D):(dZ n ds).Perm ds:=by
 unfold dZ;split
 ·rename_i h;exact h.choose_spec.1
 ·exact List.Perm.refl _
noncomputable def CA(n:Nat)(ds:List D):Prop:=∀a∈ds,∀b∈ds,Cp n a b
theorem CA.neg{n:Nat}{ds:List D}(h:CA n ds){a b c:D}(ha:a∈ds)(hb:b∈ds)(hc:c∈ds)(l:ltN n a c=true):ltN n a b=true∨ltN n b c=true:=by
 rcases(lJ n).tri (h a ha b hb) with q|q|q
 ·subst q;exact .inr l
 ·exact .inl q
 ·exact .inr ((lJ n).tra (h b hb a ha) (h a ha c hc) (h b hb c hc) q l)
theorem gX{n:Nat}{ds es:List D}(h:CA n ds)(p:es.Perm ds)(s:Srt n es):es=dZ n ds:=by
 have ex:∃es:List D,es.Perm ds/\Srt n es:=⟨es,p,s⟩;have e:dZ n ds=ex.choose:=by unfold dZ;rw[dif_pos ex]
 obtain⟨p2,s2⟩:=ex.choose_spec;rw[e];refine(p.trans p2.symm).eq_of_pairwise (fun a b ha hb h1 h2=>?_) s s2;rcases(lJ n).tri (h a (p.mem_iff.mp ha) b (p2.mem_iff.mp hb)) with q|q|q
 ·exact q
 ·rw[h2]at q;cases q
 ·rw[h1]at q;cases q
end VF
namespace VF
open PySem L2 PySem.SeqAt
open PySem.AutoSeq1 (wpAny_loadPart')
open PySem.MeetsSeq PySem.MeetsSeq2 PySem.MeetsSeq3
noncomputable def LtAt(A:Around)(s:Shared)(u v:Value)(b:Bool):Prop:=∀(prog:Program)(w:World)(E:Value->Shared->Prop)(Q:Value->Shared->Prop),Q (.bool b) s->wpAny (model prog w) A (richCompare .Lt u v) Q E s
open Classical in
inductive IL(A:Around)(s:Shared)(lt:D->D->Bool):List Value->List Value->List D->List D->Prop where
 | left {ws:List Value} {es:List D}:ws.length=es.length->IL A s lt [] ws [] es
 | right {vs:List Value} {ds:List D}:vs.length=ds.length->IL A s lt vs [] ds []
 | cons {v w:Value} {vs ws:List Value} {d e:D} {ds es:List D}:EqAt A.in1 s v w (decide (d=e))->(d≠e->LtAt A.in1 s v w (lt d e))->IL A s lt vs ws ds es->IL A s lt (v::vs) (w::ws) (d::ds) (e::es)
open Classical in
inductive KL(A:Around)(s:Shared)(lt:D->D->Bool)(n m:Nat)(R:Result->Shared->Prop){α β:Type}(rest:List (Value×Value))(b:Option α×β)(s':Shared):Prop
 | mk (vs ws:List Value) (ds' es':List D) (e1:b.1=none) (e2:s'=s) (hz:rest=vs.zip ws) (hi:IL A s lt vs ws ds' es') (hlen:vs.length+m=ws.length+n) (hR:R (.ok (.ret (.bool (ltL lt ds' es')))) s)
open Classical in
theorem oV(l b:Addr)(items items2:Array Value)(n n2:Nat)(dd dd2:Option Addr)(sl sl2:Array (Option Value))(lt:D->D->Bool)(ds es:List D) :
  Meets (Builtin.«tuple.__lt__» ⟨[.ref l,.ref b],[]⟩)
   (fun A R s=>s.heap.get? l=some { cls:=.type "tuple",dict:=dd,data:=.seq items n,slots:=sl }/\s.heap.get? b=some { cls:=.type "tuple",dict:=dd2,data:=.seq items2 n2,slots:=sl2 } /\
    IL A s lt items.toList items2.toList ds es/\R (.ok (.ret (.bool (ltL lt ds es)))) s) :=
 .of_wp fun prog w A R s h=>by
  obtain⟨hp,g,d,tk,os⟩:=s;obtain⟨hl,hb,hI,h⟩:=h;have f2:=AutoSeq1.sub_tuple_tuple
  wp_walk using wpAny_loadPart' hl,wpAny_loadPart' hb,wpAny_forIn_list _ (KL A ⟨hp,g,d,tk,os⟩ lt items.size items2.size R) _
  case turn =>
   rintro⟨y,x⟩ rest b s' ⟨vs,ws,ds',es',hb',rfl,hz,hi,hlen,hR⟩;cases hi with
   | left _=>rw[List.zip_nil_left]at hz;cases hz
   | right _=>rw[List.zip_nil_right]at hz;cases hz
   | @cons v w' vs' ws' d' e' ds2 es2 he hlt hi' =>
    rw[List.zip_cons_cons]at hz;injection hz with hyx hrest;injection hyx with hy hx;subst hy hx;simp only[Qd]at hlen;refine wpAny_bind (he prog w _ _ ?_);by_cases hde:d'=e'
    ·subst hde;rw[decide_eq_true rfl];rw[bX]at hR
     wp_walk
     exact⟨_,_,_,_,rfl,rfl,hrest,hi',by lia,hR⟩
    ·rw[decide_eq_false hde];rw[bm hde]at hR;have hri:=hlt hde prog w
     wp_walk using hri
     exact⟨_,rfl,by simpa using hR⟩
  case fin =>
   rintro⟨b1,b2⟩ s' ⟨vs,ws,ds',es',hb',rfl,hz,hi,hlen,hR⟩;simp only at hb';subst hb';have hv:ltL lt ds' es'=decide (items.size<items2.size):=by
    cases hi with
    | left hl2 =>
     cases es' with
     | nil =>
      simp only[Zh]at hlen hl2;exact(decide_eq_false (by lia)).symm
     | cons e0 e1 =>
      simp only[Zh,Qd]at hlen hl2;exact(decide_eq_true (by lia)).symm
    | right hl2 =>
     cases ds' with
     | nil =>
      simp only[Zh]at hlen hl2;exact(decide_eq_false (by lia)).symm
     | cons e0 e1 =>
      simp only[Zh,Qd]at hlen hl2;exact(decide_eq_false (by lia)).symm
    | cons _ _ _ =>
     rw[List.zip_cons_cons]at hz;cases hz
   rw[hv]at hR
   wp_walk
   exact⟨_,rfl,by simpa[Builtin.Tuple.tupleCompareSizes]using hR⟩
  case h =>
   exact⟨items.toList,items2.toList,ds,es,rfl,rfl,rfl,hI,by rw[Yc,Yc,Nat.add_comm],h⟩
theorem LtAt.tuples{A:Around}{s:Shared}{l b:Addr}{items items2:Array Value}{lt:D->D->Bool}{ds es:List D}(hl:s.heap.IsTuple l items)(hb:s.heap.IsTuple b items2)(hu:A.units<cLine)(hI:IL A s lt items.toList items2.toList ds es) :
  LtAt A s (.ref l) (.ref b) (ltL lt ds es):=fun prog w E Q h=>by
 obtain⟨⟨cls,dd,data,sl⟩,ho,hc,n,hd⟩:=id hl;obtain⟨⟨cls2,dd2,data2,sl2⟩,ho2,hc2,n2,hd2⟩:=id hb;simp only at hc hd hc2 hd2;subst hc hd hc2 hd2;exact richCompare_meets_room (op:=.Lt) ⟨_,ho,rfl⟩ ⟨_,ho2,rfl⟩ PySem.F.slot_tuple_lt PySem.F.entry_tuple_lt (PySem.F.args_tuple_lt_2 _ _) (oV l b items items2 n n2 dd dd2 sl sl2 lt ds es)
  ⟨ho,ho2,hI,show Value.bool (ltL lt ds es)≠Value.notImplemented/\Q (.bool (ltL lt ds es)) s from⟨(fun x=>nomatch x),h⟩⟩ hu
theorem CK{A:Around}{s:Shared}{lt:D->D->Bool}:∀{vs ws:List Value}{ds es:List D},vs.length=ds.length->ws.length=es.length ->
  (∀(i:Nat) v w d e,vs[i]?=some v->ws[i]?=some w->ds[i]?=some d->es[i]?=some e->(∀b,(b=true↔d=e)->EqAt A.in1 s v w b)/\(d≠e->LtAt A.in1 s v w (lt d e)))->IL A s lt vs ws ds es
 | [],_,[],_,_,h2,_=>.left h2
 | _::_,[],_::_,[],h1,_,_=>.right h1
 | v::vs,w::ws,d::ds,e::es,h1,h2,h=>by
  obtain⟨a1,a2⟩:=h 0 v w d e rfl rfl rfl rfl;exact .cons (a1 _ (by simp)) a2 (CK (by simpa using h1) (by simpa using h2) fun i v' w' d' e' z1 z2 z3 z4=>h (i+1) v' w' d' e' (by simpa using z1) (by simpa using z2) (by simpa using z3) (by simpa using z4))
 | [],_,_::_,_,h1,_,_=>by simp at h1
 | _::_,_,[],_,h1,_,_=>by simp at h1
 | _::_,[],_::_,_::_,_,h2,_=>by simp at h2
 | _::_,_::_,_::_,[],_,h2,_=>by simp at h2
open Classical in
theorem sE{A:Around}{s:Shared}{u v:Value}{d e:D}(h:EqAt A s u v (decide (d=e)))(b:Bool)(hb:b=true↔d=e):EqAt A s u v b:=by
 have:b=decide (d=e):=by rw[Qf,hb,decide_eq_true_eq]
 rw[this];exact h
theorem RH.ltAt:∀(n:Nat){s:Shared}{d1 d2:D}{u1 u2:Value}{A:Around},Pl n d1->Pl n d2->Cp n d1 d2->RH s.heap u1 d1->RH s.heap u2 d2->A.units+n<cLine->LtAt A s u1 u2 (ltN n d1 d2):=by
 intro n;induction n with
 | zero=>intro s d1 d2 u1 u2 A p;cases p
 | succ n ih =>
  intro s d1 d2 u1 u2 A p1 p2 cp r1 r2 hu;cases r1 with
  | non=>exact cp.elim
  | int i t =>
   cases r2 with
   | int j t'=>exact fun prog w E Q h=>HT.rcLt_int A s i t j t' prog w E Q h
   | _=>exact cp.elim
  | str x t =>
   cases r2 with
   | str y t'=>exact fun prog w E Q h=>(PyProof.Rows.lt_str h:wpAny (model prog w) A (compareOp .Lt (.str x t) (.str y t')) Q E s)
   | _=>exact cp.elim
  | lst _ _ _=>exact cp.elim
  | @tup a its ds t hl f =>
   cases r2 with
   | @tup b its' ds' t' hl' f' =>
    cases p1 with
    | tup p1 =>
    cases p2 with
    | tup p2 =>
    refine LtAt.tuples t t' (by lia) (CK (by simpa using hl) (by simpa using hl') fun i v w d e z1 z2 z3 z4=>?_)
    have z1':its[i]?=some v:=by simpa using z1
    have z2':its'[i]?=some w:=by simpa using z2
    have m1:=p1 d (Wa z3);have m2:=p2 e (Wa z4);have hu':A.in1.units+n<cLine:=by show A.units+1+n<cLine;lia
    exact⟨sE (RH.eqAt n m1 m2 (f i v d z1' z3) (f' i w e z2' z4) hu').1,fun _=>ih m1 m2 (cp i d e z3 z4) (f i v d z1' z3) (f' i w e z2' z4) hu'⟩
   | _=>exact cp.elim
end VF
namespace VF
open PySem L2 PyProof.Rows PySem.SeqAt
noncomputable def pQ(A:Around)(s:Shared)(fl:Bool)(u v:Value)(c:Bool):Prop:=∀(prog:Program)(w:World)(E:Value->Shared->Prop)(Q:Bool->Shared->Prop),Q c s->wpAny (model prog w) A (oneLt' fl u v) Q E s
open Classical in
inductive IK(A:Around)(s:Shared)(b:Bool)(lt:D->D->Bool):Nat->List Value->List Value->List D->List D->Prop where
 | left {i:Nat} {ws:List Value} {es:List D}:ws.length=es.length->IK A s b lt i [] ws [] es
 | right {i:Nat} {vs:List Value} {ds:List D}:vs.length=ds.length->IK A s b lt i vs [] ds []
 | cons {i:Nat} {v w:Value} {vs ws:List Value} {d e:D} {ds es:List D}:EqAt A s v w (decide (d=e))->(d≠e->pQ A s (b&&i == 0) v w (lt d e))->IK A s b lt (i+1) vs ws ds es->IK A s b lt i (v::vs) (w::ws) (d::ds) (e::es)
section
variable {prog:Program}{w:World}{A:Around}{E:Value->Shared->Prop}{s:Shared}
theorem vJ{u v:Value}{c:Bool}(h:LtAt A s u v c):pQ A s false u v c:=fun prog w E Q q=>by
 rw[oneLt'_eq];dsimp only;rw[if_neg Bool.noConfusion];exact wpAny_bind (h prog w _ _ (wpAny_truthy_bool q))
theorem vK{a b:Int}{t u:Tok}(fl:Bool):pQ A s fl (.int a t) (.int b u) (decide (a<b)):=fun prog w E Q q=>by
 cases fl with
 | true=>exact oneLt_int q
 | false=>exact vJ (fun prog w E Q h=>HT.rcLt_int A s a t b u prog w E Q h) prog w E Q q
theorem qI{a b:Str}{t u:Tok}(fl:Bool):pQ A s fl (.str a t) (.str b u) (decide (a.cps.toList<b.cps.toList)):=fun prog w E Q q=>by
 cases fl with
 | true=>exact oneLt_str q
 | false=>exact vJ (fun prog w E Q h=>(PyProof.Rows.lt_str h:wpAny (model prog w) A (compareOp .Lt (.str a t) (.str b u)) Q E s)) prog w E Q q
inductive KI(A:Around)(s:Shared)(b:Bool)(lt:D->D->Bool)(n m:Nat)(Q:Bool->Shared->Prop)(rest:List ((Value×Value)×Nat))(r:Option Bool×Unit)(s':Shared):Prop
 | mk (i:Nat) (vs ws:List Value) (ds' es':List D) (e1:s'=s) (e2:r=(none,())) (hz:rest=(vs.zip ws).zipIdx i) (hi:IK A s b lt i vs ws ds' es') (hlen:vs.length+m=ws.length+n) (hR:Q (ltL lt ds' es') s)
open Classical in
theorem vL{l r:Addr}{xs ys:Array Value}{b:Bool}{lt:D->D->Bool}{ds es:List D}{Q:Bool->Shared->Prop}(hl:s.heap.IsTuple l xs)(hr:s.heap.IsTuple r ys)(hI:IK A s b lt 0 xs.toList ys.toList ds es)(q:Q (ltL lt ds es) s) :
  wpAny (model prog w) A (keyLt' (tuples' b) (.ref l) (.ref r)) Q E s:=by
 obtain⟨o1,g1,_,n1,d1⟩:=hl;obtain⟨o2,g2,_,n2,d2⟩:=hr;refine wpAny_bind (listItems_at g1 d1 ?_);refine wpAny_bind (listItems_at g2 d2 ?_);refine wpAny_bind (wpAny_forIn_list _ (KI A s b lt xs.size ys.size Q) _ ?_ ?_ _ _ ?_)
 ·rintro⟨⟨y,x⟩,j⟩ rest r s' ⟨i,vs,ws,ds',es',rfl,rfl,hz,hi,hlen,hR⟩;cases hi with
  | left _=>rw[List.zip_nil_left]at hz;cases hz
  | right _=>rw[List.zip_nil_right]at hz;cases hz
  | @cons _ v w' vs' ws' d' e' ds2 es2 he hlt hi' =>
   rw[List.zip_cons_cons,List.zipIdx_cons]at hz;injection hz with hyx hrest;injection hyx with hy hj;injection hy with hy hx;subst hy hx hj;simp only[Qd]at hlen;dsimp only;refine wpAny_bind (he prog w _ _ ?_);by_cases hde:d'=e'
   ·subst hde;rw[decide_eq_true rfl];rw[bX]at hR;exact wpAny_pure ⟨_,_,_,_,_,rfl,rfl,hrest,hi',by lia,hR⟩
   ·rw[decide_eq_false hde];rw[bm hde]at hR;exact wpAny_bind (hlt hde prog w _ _ (wpAny_pure (wpAny_pure hR)))
 ·rintro r s' ⟨i,vs,ws,ds',es',rfl,rfl,hz,hi,hlen,hR⟩;have hv:ltL lt ds' es'=decide (xs.size<ys.size):=by
   cases hi with
   | left hl2 =>
    cases es' with
    | nil =>
     simp only[Zh]at hlen hl2;exact(decide_eq_false (by lia)).symm
    | cons e0 e1 =>
     simp only[Zh,Qd]at hlen hl2;exact(decide_eq_true (by lia)).symm
   | right hl2 =>
    cases ds' with
    | nil =>
     simp only[Zh]at hlen hl2;exact(decide_eq_false (by lia)).symm
    | cons e0 e1 =>
     simp only[Zh,Qd]at hlen hl2;exact(decide_eq_false (by lia)).symm
   | cons _ _ _ =>
    rw[List.zip_cons_cons,List.zipIdx_cons]at hz;cases hz
  rw[hv]at hR;exact wpAny_pure hR
 ·exact⟨0,xs.toList,ys.toList,ds,es,rfl,rfl,rfl,hI,by rw[Yc,Yc,Nat.add_comm],q⟩
theorem CL{b:Bool}{lt:D->D->Bool}:∀{i:Nat}{vs ws:List Value}{ds es:List D},vs.length=ds.length->ws.length=es.length ->
  (∀(j:Nat) v w d e,vs[j]?=some v->ws[j]?=some w->ds[j]?=some d->es[j]?=some e->(∀c,(c=true↔d=e)->EqAt A s v w c)/\(d≠e->pQ A s (b&&(i+j) == 0) v w (lt d e)))->IK A s b lt i vs ws ds es
 | _,[],_,[],_,_,h2,_=>.left h2
 | _,_::_,[],_::_,[],h1,_,_=>.right h1
 | i,v::vs,w::ws,d::ds,e::es,h1,h2,h=>by
  obtain⟨a1,a2⟩:=h 0 v w d e rfl rfl rfl rfl;refine .cons (a1 _ (by simp)) a2 (CL (by simpa using h1) (by simpa using h2) fun j v' w' d' e' z1 z2 z3 z4=>?_)
  have:=h (j+1) v' w' d' e' (by simpa using z1) (by simpa using z2) (by simpa using z3) (by simpa using z4)
  rwa [show i+(j+1)=i+1+j by lia]at this
 | _,[],_,_::_,_,h1,_,_=>by simp at h1
 | _,_::_,_,[],_,h1,_,_=>by simp at h1
 | _,_::_,[],_::_,_::_,_,h2,_=>by simp at h2
 | _,_::_,_::_,_::_,[],_,h2,_=>by simp at h2
noncomputable def Es(d:D):Prop:=match d with
 | .tup (.int _::_)=>True
 | _=>False
noncomputable def Et(d:D):Prop:=match d with
 | .tup (.str _::_)=>True
 | _=>False
theorem vM{d:D}(h:Es d):∃i r,d=.tup (.int i::r):=by
 cases d with
 | tup l =>
  cases l with
  | nil=>exact h.elim
  | cons x r =>
   cases x with
   | int i=>exact⟨_,_,rfl⟩
   | _=>exact h.elim
 | _=>exact h.elim
theorem vN{d:D}(h:Et d):∃i r,d=.tup (.str i::r):=by
 cases d with
 | tup l =>
  cases l with
  | nil=>exact h.elim
  | cons x r =>
   cases x with
   | str i=>exact⟨_,_,rfl⟩
   | _=>exact h.elim
 | _=>exact h.elim
theorem zg{n:Nat}{d1 d2:D}{u1 u2:Value}{b:Bool}{Q:Bool->Shared->Prop}(p1:Pl (n+1) d1)(p2:Pl (n+1) d2)(cp:Cp (n+1) d1 d2)(r1:RH s.heap u1 d1)(r2:RH s.heap u2 d2)(hu:A.units+(n+1)<cLine)
  (ht:∃xs,d1=.tup xs)(hb:b=true->(Es d1/\Es d2)∨(Et d1/\Et d2))(q:Q (ltN (n+1) d1 d2) s):wpAny (model prog w) A (keyLt' (tuples' b) u1 u2) Q E s:=by
 obtain⟨xs,rfl⟩:=ht;cases r1 with
 | @tup a its ds t hl f =>
  cases r2 with
  | @tup a2 its' ds' t' hl' f' =>
   cases p1 with
   | tup p1 =>
   cases p2 with
   | tup p2 =>
   refine vL (lt:=ltN n) (ds:=xs) (es:=ds') t t' (CL (by simpa using hl) (by simpa using hl') fun j v w' d e z1 z2 z3 z4=>?_) q
   have z1':its[j]?=some v:=by simpa using z1
   have z2':its'[j]?=some w':=by simpa using z2
   have m1:=p1 d (Wa z3);have m2:=p2 e (Wa z4);have k1:=f j v d z1' z3;have k2:=f' j w' e z2' z4;have c1:=cp j d e z3 z4;refine⟨sE (RH.eqAt n m1 m2 k1 k2 (by lia)).1,fun _=>?_⟩
   cases hfl:(b&&(0+j) == 0) with
   | false=>exact vJ (RH.ltAt n m1 m2 c1 k1 k2 (by lia))
   | true =>
    rw[Yi]at hfl;have hj:j=0:=by have:=eq_of_beq hfl.2;lia
    subst hj;rcases hb hfl.1 with⟨g1,g2⟩|⟨g1,g2⟩
    ·obtain⟨i,r,e1⟩:=vM g1;obtain⟨i2,r2,e2⟩:=vM g2;cases e1;cases e2;cases z3;cases z4;cases k1;cases k2;cases n with
     | zero=>cases m1
     | succ n=>exact vK true
    ·obtain⟨i,r,e1⟩:=vN g1;obtain⟨i2,r2,e2⟩:=vN g2;cases e1;cases e2;cases z3;cases z4;cases k1;cases k2;cases n with
     | zero=>cases m1
     | succ n=>exact qI true
  | _=>exact cp.elim
end
end VF
namespace VF
open PySem L2 PyProof.Rows
section
variable {M:Model}{prog:Program}{w:World}{A:Around}{E:Value->Shared->Prop}{s:Shared}
theorem vO{α β:Type}{f:α->Sem β}{g:α->β}:∀(l:List α),(∀v∈l,∀Q:β->Shared->Prop,Q (g v) s->wpAny M A (f v) Q E s)->∀Q:List β->Shared->Prop,Q (l.map g) s->wpAny M A (l.mapM f) Q E s
 | [],_,Q,q=>by rw[List.mapM_nil];exact wpAny_pure q
 | v::l,h,Q,q=>by
  rw[List.mapM_cons];exact wpAny_bind (h v Zc _ (wpAny_bind (vO l (fun u hu=>h u (Xb _ hu)) _ (wpAny_pure q))))
theorem qJ{α β:Type}{f:α->Sem β}{g:α->β}{l:List α}(h:∀v∈l,∀Q:β->Shared->Prop,Q (g v) s->wpAny M A (f v) Q E s){Q:Array β->Shared->Prop}(q:Q (l.map g).toArray s):wpAny M A (l.toArray.mapM f) Q E s:=by
 rw[List.mapM_toArray,map_eq_pure_bind];exact wpAny_bind (vO l h _ (wpAny_pure q))
noncomputable def tyD:D->String
 | .int _=>"int"
 | .str _=>"str"
 | .tup _=>"tuple"
 | _=>"list"
theorem RH.ty{u:Value}{d:D}(r:RH s.heap u d)(h:d≠.non):s.TypeIs u (tyD d):=by
 cases r with
 | non=>exact absurd rfl h
 | int i t=>exact typeIs_int s i t
 | str x t=>exact typeIs_str s x t
 | tup t _ _=>obtain⟨o,h1,h2,_⟩:=t;exact⟨o,h1,h2⟩
 | lst t _ _=>obtain⟨o,h1,h2,_⟩:=t;exact⟨o,h1,h2⟩
theorem zh{us:List Value}{ds:List D}{T:String}(hne:us≠[])(hl:us.length=ds.length)(r:∀(i:Nat) u d,us[i]?=some u->ds[i]?=some d->RH s.heap u d/\d≠.non/\tyD d=T){Q:Option Value->Shared->Prop}(q:Q (some (.type T)) s) :
  wpAny M A (oneTypeOnly' us.toArray) Q E s:=by
 rw[oneTypeOnly'_eq];refine wpAny_bind (qJ (g:=fun _=>Value.type T) (fun v hv Q q=>?_) ?_)
 ·obtain⟨i,hi,rfl⟩:=List.mem_iff_getElem.mp hv;obtain⟨r1,r2,r3⟩:=r i us[i] ds[i] (Za hi) (Za (by lia))
  exact wpAny_typeOf (r3 ▸ r1.ty r2) q
 ·cases us with
  | nil=>exact absurd rfl hne
  | cons u us =>
   have h0:(List.map (fun _=>Value.type T) (u::us)).toArray[0]?=some (Value.type T):=by simp
   rw[h0];have hall:((List.map (fun _=>Value.type T) (u::us)).toArray.all fun x=>x == Value.type T)=true:=by
    simp only[List.all_toArray,List.all_map,Ql];intro _ _;exact beq_self_eq_true _
   dsimp only;rw[hall,if_pos rfl];exact wpAny_pure q
theorem zi{u:Value}{d:D}{Q:Option Value->Shared->Prop}(r:RH s.heap u d)(h:d≠.non)(ht:tyD d≠"tuple")(q:Q none s):wpAny M A (firstOfTuple' u) Q E s:=by
 refine wpAny_bind (wpAny_typeOf (r.ty h) ?_);rw[if_pos (by rw[bne_iff_ne];intro e;injection e with e;exact ht e)]
 exact wpAny_pure q
theorem pR{a:Addr}{its:List Value}{u:Value}{us:List Value}{Q:Option Value->Shared->Prop}(t:s.heap.IsTuple a its.toArray)(e:its=u::us)(q:Q (some u) s):wpAny M A (firstOfTuple' (.ref a)) Q E s:=by
 obtain⟨o,h1,h2,n,h3⟩:=t;refine wpAny_bind (wpAny_typeOf (T:="tuple") ⟨o,h1,h2⟩ ?_);rw[if_neg (by rw[bne_iff_ne];intro z;exact z rfl)]
 refine wpAny_bind (listItems_at h1 h3 ?_);subst e;exact wpAny_pure q
inductive Kd:List D->SortKind->Prop where
 | sc {ds:List D} {T:String}:T≠"tuple"->(∀d∈ds,d≠.non/\tyD d=T)->Kd ds oneType'
 | tp {ds:List D} {T:String}:(∀d∈ds,∃x xs,d=.tup (x::xs)/\x≠.non/\tyD x=T)->Kd ds (tuples' (T != "tuple"))
theorem Gg{us:List Value}{ds:List D}{κ:SortKind}(hne:us≠[])(hl:us.length=ds.length)(r:∀(i:Nat) u d,us[i]?=some u->ds[i]?=some d->RH s.heap u d)(hk:Kd ds κ){Q:SortKind->Shared->Prop}(q:Q κ s) :
  wpAny M A (keyKind' us.toArray) Q E s:=by
 rw[keyKind'_eq];cases hk with
 | @sc T hT h =>
  refine wpAny_bind (qJ (g:=fun _=>none) (fun v hv Q q=>?_) ?_)
  ·obtain⟨i,hi,rfl⟩:=List.mem_iff_getElem.mp hv;have hd:=h ds[i] (List.getElem_mem _);exact zi (r i _ _ (Za hi) (Za (by lia))) hd.1 (by rw[hd.2];exact hT) q
  ·cases us with
   | nil=>exact absurd rfl hne
   | cons u us =>
    rw[if_neg (by simp),if_neg (by simp)]
    refine wpAny_bind (zh (T:=T) hne hl (fun i u d e1 e2=>⟨r i u d e1 e2,h d (Wa e2)⟩) ?_);exact wpAny_pure q
 | @tp T h =>
  have hx:∀(i:Nat)(hi:i<us.length),∃u0 x xs,(∀Q:Option Value->Shared->Prop,Q (some u0) s->wpAny M A (firstOfTuple' us[i]) Q E s)/\ds[i]?=some (.tup (x::xs))/\RH s.heap u0 x/\x≠.non/\tyD x=T:=fun i hi=>by
   have hd:i<ds.length:=by lia
   obtain⟨x,xs,e,h1,h2⟩:=h ds[i] (List.getElem_mem _);have rr:=r i us[i] ds[i] (Za hi) (Za hd);rw[e]at rr;generalize us[i]=v at rr;cases rr with
   | @tup a its _ t hl f =>
    cases its with
    | nil=>simp at hl
    | cons u0 ur=>exact⟨u0,x,xs,fun Q q=>pR t rfl q,by rw[Za hd,e],f 0 u0 x rfl rfl,h1,h2⟩
  have hf:∃fs:List Value,fs.length=us.length/\(∀Q:Array (Option Value)->Shared->Prop,Q (fs.map some).toArray s->wpAny M A (us.toArray.mapM firstOfTuple') Q E s)/\∀(i:Nat) u,fs[i]?=some u->∃x,RH s.heap u x/\x≠.non/\tyD x=T:=by
   have:∀l:List Value,(∀v∈l,∃u0 x,(∀Q:Option Value->Shared->Prop,Q (some u0) s->wpAny M A (firstOfTuple' v) Q E s)/\RH s.heap u0 x/\x≠.non/\tyD x=T) ->
     ∃fs:List Value,fs.length=l.length/\(∀Q:List (Option Value)->Shared->Prop,Q (fs.map some) s->wpAny M A (l.mapM firstOfTuple') Q E s)/\∀(i:Nat) u,fs[i]?=some u->∃x,RH s.heap u x/\x≠.non/\tyD x=T:=fun l=>by
    induction l with
    | nil=>exact fun _=>⟨[],rfl,fun Q q=>by rw[List.mapM_nil];exact wpAny_pure q,fun i u e=>by simp at e⟩
    | cons v l ih =>
     intro hv;obtain⟨fs,f1,f2,f3⟩:=ih fun u hu=>hv u (Xb _ hu);obtain⟨u0,x,g1,g2⟩:=hv v Zc;refine⟨u0::fs,by simp[f1],fun Q q=>?_,fun i u e=>?_⟩
     ·rw[List.mapM_cons];exact wpAny_bind (g1 _ (wpAny_bind (f2 _ (wpAny_pure q))))
     ·cases i with
      | zero =>
       have:u0=u:=by simpa using e
       subst this;exact⟨x,g2⟩
      | succ i=>exact f3 i u (by simpa using e)
   obtain⟨fs,f1,f2,f3⟩:=this us fun v hv=>by
    obtain⟨i,hi,rfl⟩:=List.mem_iff_getElem.mp hv;obtain⟨u0,x,xs,a1,_,a2⟩:=hx i hi;exact⟨u0,x,a1,a2⟩
   refine⟨fs,f1,fun Q q=>?_,f3⟩;rw[List.mapM_toArray,map_eq_pure_bind];exact wpAny_bind (f2 _ (wpAny_pure q))
  obtain⟨fs,f1,f2,f3⟩:=hf;refine wpAny_bind (f2 _ ?_);rw[if_pos (by simp)]
  refine wpAny_bind (wpAny_rule ?_);have e1:(fs.map some).toArray.filterMap id=fs.toArray:=by simp
  rw[e1];have hne':fs≠[]:=fun z=>by
   rw[z]at f1;exact hne (Zf f1.symm)
  obtain⟨xs,hxs,hxx⟩:∃xs:List D,fs.length=xs.length/\∀(i:Nat) u d,fs[i]?=some u->xs[i]?=some d->RH s.heap u d/\d≠.non/\tyD d=T:=by
   have:∀l:List Value,(∀(i:Nat) u,l[i]?=some u->∃x,RH s.heap u x/\x≠.non/\tyD x=T)->∃xs:List D,l.length=xs.length/\∀(i:Nat) u d,l[i]?=some u->xs[i]?=some d->RH s.heap u d/\d≠.non/\tyD d=T:=fun l=>by
    induction l with
    | nil=>exact fun _=>⟨[],rfl,fun i u d e=>by simp at e⟩
    | cons v l ih =>
     intro hv;obtain⟨xs,x1,x2⟩:=ih fun i u e=>hv (i+1) u (by simpa using e)
     obtain⟨x,hx⟩:=hv 0 v rfl;refine⟨x::xs,by simp[x1],fun i u d e1 e2=>?_⟩
     cases i with
     | zero =>
      have a1:v=u:=by simpa using e1
      have a2:x=d:=by simpa using e2
      subst a1 a2;exact hx
     | succ i=>exact x2 i u d (by simpa using e1) (by simpa using e2)
   exact this fs f3
  refine wpAny_bind (zh (T:=T) hne' hxs hxx ?_);have e2:(Option.any (fun x=>x != Value.type "tuple") (some (Value.type T)))=(T != "tuple"):=by
   show(Value.type T != Value.type "tuple")=_;rw[Qf,bne_iff_ne,bne_iff_ne];constructor
   ·exact fun h e=>h (by rw[e])
   ·exact fun h e=>h (by injection e)
  rw[e2];exact wpAny_pure q
end
end VF
namespace VF
open PySem L2 PyProof.Rows TS
section
variable {prog:Program}{w:World}{A:Around}{E:Value->Shared->Prop}{s:Shared}
theorem RH.kept{h h':Heap}(k:∀b o,h.get? b=some o->h'.get? b=some o){u:Value}{d:D}(r:RH h u d):RH h' u d:=by
 induction r with
 | non=>exact .non
 | int i t=>exact .int i t
 | str x t=>exact .str x t
 | tup t hl _ ih=>obtain⟨o,h1,h2⟩:=t;exact .tup ⟨o,k _ o h1,h2⟩ hl ih
 | lst t hl _ ih=>obtain⟨o,h1,h2⟩:=t;exact .lst ⟨o,k _ o h1,h2⟩ hl ih
noncomputable def dk(ds:List D)(g:Nat):D:=ds.getD g (ds.headD .non)
theorem lZ{ds:List D}{g:Nat}{d:D}(h:ds[g]?=some d):dk ds g=d:=by
 unfold dk;rw[Qa,h];rfl
theorem gY{ds:List D}(h:ds≠[])(g:Nat):dk ds g∈ds:=by
 cases e:ds[g]? with
 | some d=>rw[lZ e];exact Wa e
 | none =>
  cases ds with
  | nil=>exact absurd rfl h
  | cons x xs =>
   unfold dk;rw[Qa,e];simp
noncomputable def cD(ds:List D)(g h:Nat):Bool:=ltN 40 (dk ds g) (dk ds h)
theorem zj{n:Nat}{d e:D}(h:Cp n d e)(ht:tyD d≠"tuple"):(∃i j,d=.int i/\e=.int j)∨∃x y,d=.str x/\e=.str y:=by
 cases n with
 | zero=>exact h.elim
 | succ n =>
  cases d with
  | int i =>
   cases e with
   | int j=>exact .inl ⟨i,j,rfl,rfl⟩
   | _=>exact h.elim
  | str x =>
   cases e with
   | str y=>exact .inr ⟨x,y,rfl,rfl⟩
   | _=>exact h.elim
  | tup xs=>exact absurd rfl ht
  | _=>exact h.elim
theorem Bz{us vs:List Value}{ds:List D}{κ:SortKind}(hl:us.length=ds.length)(r:∀(i:Nat) u d,us[i]?=some u->ds[i]?=some d->RH s.heap u d)(pl:∀d∈ds,Pl 40 d)(ca:CA 40 ds)(hk:Kd ds κ)(hu:A.units+40<cLine) :
  Cm prog w A s κ (fun g=>(us.getD g .none,vs.getD g .none)) us.length (cD ds):=by
 refine⟨fun E Q g h hg hh q=>?_,fun g=>mY _ _,fun g h i h1 h2=>?_,fun g h i h1=>?_⟩
 ·have eg:us[g]?=some us[g]:=Za hg;have eh:us[h]?=some us[h]:=Za hh;have dg:ds[g]?=some ds[g]:=Za (by lia)
  have dh:ds[h]?=some ds[h]:=Za (by lia)
  have q':Q (ltN 40 ds[g] ds[h]) s:=by unfold cD at q;rw[lZ dg,lZ dh]at q;exact q
  have rg:=r g _ _ eg dg;have rh:=r h _ _ eh dh;have mg:=Wa dg;have mh:=Wa dh;have cp:=ca _ mg _ mh;show wpAny (model prog w) A (keyLt' κ (us.getD g .none) (us.getD h .none)) Q E s;rw[Qa,Qa,eg,eh];show wpAny (model prog w) A (keyLt' κ us[g] us[h]) Q E s;generalize us[g]=ug at rg;generalize us[h]=uh at rh;generalize ds[g]=a at *;generalize ds[h]=b at *;cases hk with
  | @sc T hT hd =>
   rw[keyLt'_oneType];rcases zj cp (by rw[(hd a mg).2];exact hT) with⟨i,j,rfl,rfl⟩|⟨x,y,rfl,rfl⟩
   ·cases rg;cases rh;exact vK true prog w E Q q'
   ·cases rg;cases rh;exact qI true prog w E Q q'
  | @tp T hd =>
   obtain⟨x,xs,rfl,nx,tx⟩:=hd a mg;obtain⟨y,ys,rfl,ny,ty⟩:=hd b mh;refine zg (n:=39) (pl _ mg) (pl _ mh) cp rg rh (by lia) ⟨_,rfl⟩ (fun hb=>?_) q'
   have hT:T≠"tuple":=by rwa [bne_iff_ne]at hb
   rcases zj (cp 0 x y rfl rfl) (by rw[tx];exact hT) with⟨i,j,rfl,rfl⟩|⟨x,y,rfl,rfl⟩
   ·exact .inl ⟨trivial,trivial⟩
   ·exact .inr ⟨trivial,trivial⟩
 ·by_cases hne:ds=[]
  ·subst hne;have:cD [] g h=false:=mY 40 .non;rw[this]at h1;cases h1
  ·exact(lJ 40).tra (ca _ (gY hne g) _ (gY hne h)) (ca _ (gY hne h) _ (gY hne i)) (ca _ (gY hne g) _ (gY hne i)) h1 h2
 ·by_cases hne:ds=[]
  ·subst hne;have:cD [] g i=false:=mY 40 .non;rw[this]at h1;cases h1
  ·exact ca.neg (gY hne g) (gY hne h) (gY hne i) h1
noncomputable def bL(vs:List Value)(γ:Array Nat):Array Value:=γ.map fun g=>vs.getD g .none
theorem pU{a : Addr}{vs : List Value}{n : Nat}{ds : List D}{κ : SortKind}{P : Fin → Shared → Prop}(ho : s.heap.get? a = some (seqObj "list" vs.toArray n))(hz : vs.length ≤ sizeLine)
    (hl : vs.length = ds.length)(r : ∀ (i : Nat) u d, vs[i]? = some u → ds[i]? = some d → RH (((s.heap.update a (Obj.mapSeq fun _ => #[])).push (seqObj "tuple" vs.toArray 0)).push (seqObj "list" #[] 0)) u d)
    (pl : ∀ d ∈ ds, Pl 40 d) (ca : CA 40 ds) (hk : Kd ds κ) (hu : A.units + 40 < cLine)
    (fin : ∀ γ : Array Nat, γ.Perm (Array.range vs.length) → Sg (cD ds) γ 0 vs.length → P (.done (.ret .none)) { s with heap := sortedHeap s.heap a vs (bL vs γ) }) :
    wpAny (model prog w) A (Builtin.«list.sort» ⟨[.ref a], []⟩) P E s := by
  rw [list_sort_plain];have small := Heap.lt_size ho;refine wpAny_bind (listItems_at ho rfl (wpAny_bind (listUpdate_at ho rfl ?_)));obtain ⟨ep, hE⟩ : ∃ ep, (s.heap.update a (Obj.mapSeq fun _ => #[])).get? a = some (seqObj "list" #[] ep) := ⟨_, get?_update_seq ho (fun _ => #[])⟩;refine wpAny_bind (seqEpoch_at hE rfl (wpAny_bind (wpAny_newTuple (wpAny_bind (wpAny_newList (wpAny_holding ?_))))));have hE2 : (((s.heap.update a (Obj.mapSeq fun _ => #[])).push (seqObj "tuple" vs.toArray 0)).push (seqObj "list" #[] 0)).get? a = some (seqObj "list" #[] ep) :=
    Heap.get?_push_of_some _ (Heap.get?_push_of_some _ hE)
  generalize hH : ((s.heap.update a (Obj.mapSeq fun _ => #[])).push (seqObj "tuple" vs.toArray 0)).push (seqObj "list" #[] 0) = h6 at r hE2;show wpAny (model prog w) A _ P E { s with heap := h6 };dsimp only;have hsz : vs.toArray.size = vs.length := by simp
  have zs : ∀ γ : Array Nat, γ.Perm (Array.range vs.length) → (bL vs γ).size ≤ sizeLine + 1 := fun γ p => by
    unfold bL;rw [Array.size_map, p.size_eq, Array.size_range]; lia
  have done : ∀ γ : Array Nat, γ.Perm (Array.range vs.length) → Sg (cD ds) γ 0 vs.length → P (.done (.ret .none)) { s with heap := h6.update a (Obj.mapSeq fun _ => bL vs γ) } := fun γ p g => by
    have := fin γ p g;unfold sortedHeap at this;rw [← hH]; exact this
  have e0 : vs.toArray.zip vs.toArray = (Array.range vs.length).map fun g => (vs.getD g .none, vs.getD g .none) := by
    apply Array.ext_getElem?
    intro i;rw [Array.getElem?_map, Array.getElem?_range];by_cases hi : i < vs.length
    · rw [if_pos hi]; simp [hi]
    · rw [if_neg hi]; simp [hi]
  by_cases few : vs.toArray.size < 2
  · rw [if_pos few, if_pos few]
    refine wpAny_bind (wpAny_pure ?_);rw [StateT.run_pure];refine wpAny_bind (wpAny_pure ?_);dsimp only;have em : (vs.toArray.zip vs.toArray).map (fun x => x.2) = bL vs (Array.range vs.length) := by
      rw [e0, Array.map_map]; rfl
    refine wpAny_bind (seqEpoch_at hE2 rfl (wpAny_bind (listUpdate_at hE2 rfl ?_ (hsz2 := ?_))))
    · simp only [bne_self_eq_false, Bool.false_eq_true, if_false]
      refine wpAny_pure ?_;rw [em];exact done _ (Array.Perm.refl _) fun i j g h z1 z2 z3 => by lia
    · rw [em]; exact zs _ (Array.Perm.refl _)
  · rw [if_neg few, if_neg few]
    have hne : vs ≠ [] := fun z => few (by rw [z]; decide)
    refine wpAny_bind (Gg (s := { s with heap := h6 }) hne hl r hk ?_);have C : Cm prog w A { s with heap := h6 } κ (fun g => (vs.getD g .none, vs.getD g .none)) vs.length (cD ds) := Bz (s := { s with heap := h6 }) hl r pl ca hk hu
    refine wpAny_bind (wpAny_mono (vE (st := SortSt.mk' κ (vs.toArray.zip vs.toArray) #[] 7 none) C (γ := Array.range vs.length) ⟨e0, rfl, rfl, Array.Perm.refl _⟩ rfl (fun i _ z => by rw [Array.getElem?_range, if_pos z])
      (Q := fun _ st' => ∃ γ, Rp κ (fun g => (vs.getD g .none, vs.getD g .none)) vs.length st' γ ∧ Sg (cD ds) γ 0 vs.length) fun st' γ' R g => ⟨γ', R, g⟩) ?_ fun _ _ e => e)
    rintro ⟨⟨⟩, st'⟩ s' ⟨rfl, γ, R, g⟩;dsimp only;have em : (arrOf st').map (fun x => x.2) = bL vs γ := by
      rw [R.arr, Array.map_map]; rfl
    refine wpAny_bind (seqEpoch_at hE2 rfl (wpAny_bind (listUpdate_at hE2 rfl ?_ (hsz2 := ?_))))
    · rw [show failedOf st' = none from R.fine]
      simp only [bne_self_eq_false, Bool.false_eq_true, if_false];refine wpAny_pure ?_;show P (.done (.ret .none)) { s with heap := h6.update a (Obj.mapSeq fun _ => (arrOf st').map (fun x => x.2)) };rw [em];exact done γ R.perm g
    · show ((arrOf st').map (fun x => x.2)).size ≤ sizeLine + 1
      rw [em]; exact zs γ R.perm
end
end VF
namespace VF
open PySem L2 PyProof.Rows TS
section
variable {prog:Program}{w:World}{A:Around}{E:Value->Shared->Prop}{s:Shared}
theorem sF{l:Addr}{vs:List Value}{Q:List Value->Shared->Prop}(hl:s.heap.IsList l vs.toArray∨s.heap.IsTuple l vs.toArray)(hz:vs.length<=sizeLine)
  (q:Q vs { s with heap:=(s.heap.push (seqObj "list" #[] 0)).update s.heap.objs.size (Obj.mapSeq (·++vs.toArray)) }):wpAny (model prog w) A (collect (.ref l)) Q E s:=by
 rcases hl with hl|hl
 ·exact collect_list hl q hz
 obtain⟨o,ho,hc,m,hd⟩:=id hl;have kept:=Heap.get?_push_of_some (seqObj "list" #[] 0) ho;have new:(s.heap.push (seqObj "list" #[] 0)).get? s.heap.objs.size=some (seqObj "list" #[] 0):=Heap.get?_push_size _ rfl;unfold collect;refine wpAny_bind (wpAny_runValue (codeAny_builtin entry_proto_collect' ?_));refine wpAny_bind (wpAny_newList (wpAny_pure ⟨Code.quiet_builtin _ (by decide +kernel),codeAny_builtin entry_list_iadd' ?_⟩))
 show wpAny _ _ (Builtin.List.listExtendWith (.ref s.heap.objs.size) (.ref l) (.ref s.heap.objs.size)) _ _ { s with heap:=s.heap.push (seqObj "list" #[] 0) };unfold Builtin.List.listExtendWith;refine wpAny_bind (wpAny_typeOf (T:="tuple") ⟨o,kept,hc⟩ ?_);rw[if_pos (by rw[show(Value.type "tuple" == Value.type "tuple")=true from rfl,Bool.or_true])]
 refine wpAny_bind (listItems_at kept hd (wpAny_bind (listItems_at new rfl ?_)));rw[if_neg (by simp)]
 have room:((#[]:Array Value)++vs.toArray).size<=sizeLine+1:=by
  rw[Array.size_append,Vb];simp;lia
 refine wpAny_bind (listUpdate_at new rfl ?_ (Wh _) room);refine wpAny_pure ?_;have at':=get?_update_seq new (fun x=>x++vs.toArray);refine wpAny_bind (wpAny_load at' ?_);show wpAny _ _ (pure ((#[]:Array Value)++vs.toArray).toList) Q E _;have e:((#[]:Array Value)++vs.toArray).toList=vs:=by simp
 rw[e];exact wpAny_pure q
theorem sG{l:Addr}{vs:List Value}{ds:List D}{κ:SortKind}{Q:Value->Shared->Prop}(hl:s.heap.IsList l vs.toArray∨s.heap.IsTuple l vs.toArray)(hz:vs.length<=sizeLine)
  (hn:vs.length=ds.length)(r:∀(i:Nat) u d,vs[i]?=some u->ds[i]?=some d->RH s.heap u d)(pl:∀d∈ds,Pl 40 d)(ca:CA 40 ds)(hk:Kd ds κ)(hu:A.units+64<cLine)
  (fin:∀γ:Array Nat,γ.Perm (Array.range vs.length)->Sg (cD ds) γ 0 vs.length->Q (.ref (s.heap.objs.size+1)) { s with heap:=sortedAll s.heap vs (bL vs γ) }) :
  wpAny (model prog w) A (call (.builtin "sorted") [.ref l]) Q E s:=by
 refine Calls.call_function_entry kind_sorted plain_sorted entry_sorted (args_sorted1 _) ?_;refine wpAny_bind (m:=checkCount "sorted" 1 1 _) (wpAny_pure (wpAny_bind (sF hl hz (wpAny_bind (wpAny_newList ?_)))));generalize hg:(s.heap.push (seqObj "list" #[] 0)).update s.heap.objs.size (Obj.mapSeq (·++vs.toArray))=h1;have z1:h1.objs.size=s.heap.objs.size+1:=by rw[← hg,Heap.size_update,size_push']
 have old:∀b o,s.heap.get? b=some o->h1.get? b=some o:=fun b o e=>by
  rw[← hg];exact(Heap.get?_update_ne _ _ _ _ (Zg (Heap.lt_size e))).trans (Heap.get?_push_of_some _ e)
 have mine:(h1.push (seqObj "list" vs.toArray 0)).get? (s.heap.objs.size+1)=some (seqObj "list" vs.toArray 0):=by rw[← z1];exact Heap.get?_push_size _ rfl
 show wpAny _ _ _ _ _ { s with heap:=h1.push (seqObj "list" vs.toArray 0) };rw[z1];refine wpAny_bind (wpAny_holding (wpAny_call_entry slot_list_sort ⟨_,mine,rfl⟩ entry_list_sort ?_ (args_list_sort _)));refine pU (s:={ s with heap:=h1.push (seqObj "list" vs.toArray 0) }) mine hz hn (fun i u d e1 e2=>(r i u d e1 e2).kept fun b o e=>?_) pl ca hk (by show A.units+1+1+40<cLine;lia) fun γ p g=>?_
 ·have hb:=Heap.lt_size e;refine Heap.get?_push_of_some _ (Heap.get?_push_of_some _ ?_);have hne:b≠s.heap.objs.size+1:=Zg (Nat.lt_succ_of_lt hb);exact(Heap.get?_update_ne _ _ _ _ hne).trans (Heap.get?_push_of_some _ (old b o e))
 ·refine⟨_,rfl,wpAny_pure ⟨_,rfl,?_⟩⟩;have:=fin γ p g;unfold sortedAll at this;rw[hg]at this;exact this
end
theorem zk{ds:List D}{γ:Array Nat}(ca:CA 40 ds)(p:γ.Perm (Array.range ds.length))(g:Sg (cD ds) γ 0 ds.length):(γ.toList.map (dk ds))=dZ 40 ds:=by
 have hsz:γ.size=ds.length:=by rw[p.size_eq,Qj]
 refine gX ca ?_ ?_
 ·have p1:(γ.toList.map (dk ds)).Perm ((List.range ds.length).map (dk ds)):=by
   have:=Yg.mp p;rw[Xm]at this;exact this.map _
  have e:(List.range ds.length).map (dk ds)=ds:=by
   refine List.ext_getElem (by simp) fun i h1 h2=>?_
   rw[List.getElem_map,List.getElem_range,lZ (Za h2)]
  rwa [e]at p1
 ·unfold Srt;rw[List.pairwise_map,Zi];intro i j hi hj hij;rw[Yc]at hi hj;have b:=g i j γ.toList[i] γ.toList[j] (Wh _) hij (by lia) (by rw[← Wg];exact Za _) (by rw[← Wg];exact Za _)
  rcases b with b|b
  ·exact qH _ _ _ b
  ·exact b.1
section
variable {X:Cx}{K:PySem.W.Frag}{Y:AS}{H:Hp}
noncomputable def zm(K:PySem.W.Frag):List V->Hp->VK->Prop:=fun xs H Q=>∃(Y:AS)(v:V)(d:D)(ds:List D)(κ:SortKind),xs=[v]/\BA K Y H v d/\d.seq=some ds/\(∀x∈ds,Pl 40 x)/\CA 40 ds/\Kd ds κ /\
 ∀(p:Addr)(vs:List V),H p=none->El K Y H vs (dZ 40 ds)->Q (.ref p) (upd H p (.lst vs))
theorem cU{n:Nat}(h:X.K=K)(hr:Room n X.A):CallR X (.builtin "sorted") (zm K):=by
 intro pins s σ H xs us Q I rv hh;obtain⟨Y,v,d,ds,κ,rfl,ba,hs,pl,ca,hk,q⟩:=hh;obtain⟨u,rfl,ru⟩:=vals1 rv;obtain⟨a,vs,rfl,sq,el⟩:=qy ba hs;cases ru;have main:∀its:List Value,Vals vs its->(s.heap.IsList a its.toArray∨s.heap.IsTuple a its.toArray)->vs.length<=sizeLine->wpAny (model X.prog X.w) X.A (call (.builtin "sorted") [.ref a]) (EP X pins σ Q) X.xe s:=fun its r t hz=>by
  have hn:its.length=ds.length:=r.length.symm.trans el.1;have rr:∀(i:Nat) u d,its[i]?=some u->ds[i]?=some d->RH s.heap u d:=fun i u d e1 e2=>by
   obtain⟨v,e3,rv⟩:=dm r i u e1;exact(el.2 i v d e3 e2).rh (pl d (Wa e2)) I h rv
  have hz':its.length<=sizeLine:=by rw[← r.length];exact hz
  refine sG t hz' hn rr pl ca hk hr.units fun γ p g=>?_;rw[hn]at p g;obtain⟨e,he⟩:=sortedAll_at s.heap its (bL its γ);have hγ:∀g∈γ.toList,g<ds.length:=fun g hg=>by
   have:=(Yg.mp p).mem_iff.mp hg;rw[Xm]at this;exact Zm.mp this
  have eo:=zk ca p g
  let ws:List V:=γ.toList.map fun g=>vs.getD g .non
  have vw:Vals ws (bL its γ).toList:=by
   have e2:(bL its γ).toList=γ.toList.map fun g=>its.getD g .none:=by unfold bL;simp
   rw[e2];have:∀l:List Nat,(∀g∈l,g<ds.length)->Vals (l.map fun g=>vs.getD g .non) (l.map fun g=>its.getD g .none):=fun l=>by
    induction l with
    | nil=>exact fun _=>.nil
    | cons g l ih =>
     intro hl;have hg:g<ds.length:=hl g Zc;have a1:its[g]?=some its[g]:=Za (by lia)
     obtain⟨v,e3,rv⟩:=dm r g _ a1;refine .cons ?_ (ih fun x hx=>hl x (Xb _ hx));show RelV (vs.getD g .non) (its.getD g .none);rw[Qa,Qa,e3,a1];exact rv
   exact this _ hγ
  have elw:El K Y H ws (dZ 40 ds):=by
   rw[← eo];refine⟨by simp[ws],fun i v d h1 h2=>?_⟩
   rw[Wc]at h1 h2;obtain⟨g1,k1,k2⟩:=Xd.mp h1;obtain⟨g2,k3,k4⟩:=Xd.mp h2;rw[k1]at k3;cases k3;have hg:g1<ds.length:=hγ g1 (Wa k1);have d1:ds[g1]?=some ds[g1]:=Za hg;obtain⟨v',e3,da⟩:=el.at d1;rw[lZ d1]at k4;rw[Qa,e3]at k2;subst k4;have:v'=v:=k2;subst this;exact da
  have hlw:ws.length=ds.length:=by
   show(γ.toList.map _).length=_;rw[Ya,Yc,p.size_eq,Qj]
  refine⟨.ref (s.heap.objs.size+1),upd H (s.heap.objs.size+1) (.lst ws),I.laid (t':=s.toks) (fun b o z=>sortedAll_old z) (Nat.le_succ _) ⟨by lia,(bL its γ).toList,e,vw,by simpa using he⟩,rfl,q _ ws (I.hok.fresh (Nat.le_succ _)) elw⟩
 rcases sq with sq|sq
 ·obtain⟨its,r,t,hz⟩:=I.list (h ▸ sq);exact main its r (.inl t.isList) hz
 ·obtain⟨its,r,t,hz⟩:=I.tuple (h ▸ sq);exact main its r (.inr t) hz
open Classical in
noncomputable def cx:List D->Option Rz
 | [d]=>match d.seq with
  | some ds=>if (∀x∈ds,Pl 40 x)/\CA 40 ds/\∃κ,Kd ds κ then some (.lst (dZ 40 ds),true) else none
  | none=>none
 | _=>none
set_option tactic.hygienic true in
theorem eP:RdCB K (zm K) cx:=by
 intro Y H xs ds z Q lv bs e q;cases bs with
 | nil=>cases e
 | @cons v vs d ds b1 bs =>
  cases bs with
  | cons _ _=>cases e
  | nil =>
   unfold cx at e;dsimp only at e;split at e
   ·rename_i xs hs
    obtain⟨c,e⟩:=aR e;cases e;obtain⟨c1,c2,κ,c3⟩:=c;exact⟨Y,v,d,xs,κ,rfl,b1,hs,c1,c2,c3,fun p ws hp el=>q _ _ (bj hp _) (fR el hp)⟩
   ·cases e
end
end VF
namespace VF22
open PySem PySem.Spec PyProof.Rows L2 VF
noncomputable def keyD:D->Option Key
 | .int i=>some (.inl i)
 | .str x=>some (.inr x)
 | _=>none
noncomputable def vP:List D->Option (List Key)
 | []=>some []
 | d::r=>(keyD d).bind fun k=>(vP r).bind fun ks=>some (k::ks)
section
variable {κ:Type}[DecidableEq κ]
noncomputable def cI(kvs:List (κ×D))(k:κ):Option D:=(kvs.find? fun kv=>decide (kv.1=k)).map (·.2)
noncomputable def iw(kvs:List (κ×D))(k:κ)(d:D):List (κ×D):=if (kvs.any fun kv=>decide (kv.1=k))=true then kvs.map (fun kv=>if kv.1=k then(kv.1,d) else kv) else kvs++[(k,d)]
noncomputable def Go(R:V->D->Prop)(kvs:List (κ×V))(ds:List (κ×D)):Prop:=kvs.map (·.1)=ds.map (·.1)/\∀(i:Nat) v d,kvs[i]?=some v->ds[i]?=some d->R v.2 d.2
theorem Go.nil{R:V->D->Prop}:Go R ([]:List (κ×V)) []:=⟨rfl,fun i v d h _=>by simp at h⟩
theorem Go.cons{R:V->D->Prop}{p:κ×V}{q:κ×D}{kvs:List (κ×V)}{ds:List (κ×D)}(h1:p.1=q.1)(h2:R p.2 q.2)(t:Go R kvs ds):Go R (p::kvs) (q::ds) :=
 ⟨by rw[Xf,Xf,h1,t.1],fun i v d a b=>by
  cases i with
  | zero=>cases a;cases b;exact h2
  | succ i=>exact t.2 i v d a b⟩
theorem Go.un{R:V->D->Prop}{p:κ×V}{q:κ×D}{kvs:List (κ×V)}{ds:List (κ×D)}(h:Go R (p::kvs) (q::ds)):p.1=q.1/\R p.2 q.2/\Go R kvs ds:=by
 obtain⟨h1,h2⟩:=h;rw[Xf,Xf]at h1;injection h1 with a b;exact⟨a,h2 0 p q rfl rfl,b,fun i v d x y=>h2 (i+1) v d x y⟩
theorem Go.look{R:V->D->Prop}:∀{kvs:List (κ×V)}{ds:List (κ×D)}(k:κ),Go R kvs ds->(jw kvs k=none/\cI ds k=none)∨∃v d,jw kvs k=some v/\cI ds k=some d/\R v d
 | [],[],_,_=>.inl ⟨rfl,rfl⟩
 | [],_::_,_,h=>by have:=h.1;simp at this
 | _::_,[],_,h=>by have:=h.1;simp at this
 | p::ps,q::qs,k,h=>by
  obtain⟨h1,h2,h3⟩:=h.un;by_cases e:p.1=k
  ·refine .inr ⟨p.2,q.2,kC e,?_,h2⟩;simp[cI,Xl,h1.symm.trans e]
  ·have e':¬ q.1=k:=fun z=>e (h1.trans z);rw[kD e,show cI (q::qs) k=cI qs k by simp[cI,Xl,e']]
   exact h3.look k
theorem Go.any{R:V->D->Prop}{kvs:List (κ×V)}{ds:List (κ×D)}(h:Go R kvs ds)(k:κ):(kvs.any fun kv=>decide (kv.1=k))=ds.any fun kv=>decide (kv.1=k):=by
 have a:∀l:List (κ×V),(l.any fun kv=>decide (kv.1=k))=(l.map (·.1)).any fun x=>decide (x=k):=fun l=>by rw[List.any_map];rfl
 rw[a,h.1,List.any_map];rfl
theorem Go.repl{R:V->D->Prop}(k:κ){y:V}{d:D}(r:R y d):∀{kvs:List (κ×V)}{ds:List (κ×D)},Go R kvs ds->Go R (kvs.map fun kv=>if kv.1=k then(kv.1,y) else kv) (ds.map fun kv=>if kv.1=k then(kv.1,d) else kv)
 | [],[],_=>Go.nil
 | [],_::_,h=>by have:=h.1;simp at this
 | _::_,[],h=>by have:=h.1;simp at this
 | p::ps,q::qs,h=>by
  obtain⟨h1,h2,h3⟩:=h.un;rw[Xf,Xf];by_cases e:p.1=k
  ·rw[if_pos e,if_pos (h1.symm.trans e)];exact Go.cons h1 r (h3.repl k r)
  ·rw[if_neg e,if_neg fun z=>e (h1.trans z)];exact Go.cons h1 h2 (h3.repl k r)
theorem Go.snoc{R:V->D->Prop}(k:κ){y:V}{d:D}(r:R y d):∀{kvs:List (κ×V)}{ds:List (κ×D)},Go R kvs ds->Go R (kvs++[(k,y)]) (ds++[(k,d)])
 | [],[],_=>Go.cons rfl r Go.nil
 | [],_::_,h=>by have:=h.1;simp at this
 | _::_,[],h=>by have:=h.1;simp at this
 | p::ps,q::qs,h=>by
  obtain⟨h1,h2,h3⟩:=h.un;exact Go.cons h1 h2 (h3.snoc k r)
theorem Go.put{R:V->D->Prop}(k:κ){y:V}{d:D}{kvs:List (κ×V)}{ds:List (κ×D)}(h:Go R kvs ds)(r:R y d):Go R (putK kvs k y) (iw ds k d):=by
 unfold putK iw;rw[h.any k];split
 ·exact h.repl k r
 ·exact h.snoc k r
theorem Go.len{R:V->D->Prop}{kvs:List (κ×V)}{ds:List (κ×D)}(h:Go R kvs ds):kvs.length=ds.length:=by
 have:=congrArg List.length h.1;rwa [Ya,Ya]at this
theorem Go.map{R S:V->D->Prop}{kvs:List (κ×V)}{ds:List (κ×D)}(h:Go R kvs ds)(f:∀v d,R v d->S v d):Go S kvs ds:=⟨h.1,fun i v d a b=>f _ _ (h.2 i v d a b)⟩
end
section
variable {K:PySem.W.Frag}{Y:AS}{H:Hp}
theorem Gh{v:V}{d:D}{k:Key}(h:DA K Y H v d)(e:keyD d=some k):v=kV k:=by
 cases d with
 | int i=>cases e;cases h;rfl
 | str x=>cases e;cases h;rfl
 | _=>cases e
theorem CM{v:V}{d:D}{k:Key}(h:BA K Y H v d)(e:keyD d=some k):v=kV k:=by
 cases d with
 | int i=>cases e;exact h
 | str x=>cases e;exact h
 | _=>cases e
theorem ul:∀{ds:List D}{vs:List V}{ks:List Key},El K Y H vs ds->vP ds=some ks->vs=ks.map kV
 | [],vs,ks,h,e=>by
  cases e;obtain rfl:=h.unnil;rfl
 | d::r,vs,ks,h,e=>by
  refine bsO e fun k e1 e=>?_;refine bsO e fun ks' e2 e=>?_;cases e;obtain⟨v,vr,rfl,da,el⟩:=h.uncons;rw[Gh da e1,ul el e2];rfl
noncomputable def atD:D->D->Option (Option D)
 | .dt kvs,.tup ds=>(vP ds).bind fun ks=>some (cI kvs ks)
 | .dk kvs,d=>(keyD d).bind fun k=>some (cI kvs k)
 | _,_=>none
theorem Gi{x y:V}{d1 d2:D}{o:Option D}(b1:BA K Y H x d1)(b2:BA K Y H y d2)(e:atD d1 d2=some o):∃(a:Addr)(r:Option V),x=.ref a/\DGet H a y r/\((r=none/\o=none)∨∃v d,r=some v/\o=some d/\DA K Y H v d):=by
 cases d1 with
 | dt kvs =>
  cases d2 with
  | tup ds =>
   refine bsO e fun ks e1 e=>?_;cases e;obtain⟨a,ep,kv,rfl,_,h1,h2,h3⟩:=b1;obtain⟨b,vs,rfl,t,el⟩:=b2;have:=ul el e1;subst this;exact⟨a,_,rfl,DGet.t h1 t.1,Go.look ks ⟨h2,h3⟩⟩
  | _=>cases e
 | dk kvs =>
  refine bsO e fun k e1 e=>?_;cases e;obtain⟨a,kv,rfl,h1,h2,h3⟩:=b1;have:=CM b2 e1;subst this;exact⟨a,_,rfl,DGet.k h1,Go.look k ⟨h2,h3⟩⟩
 | _=>cases e
noncomputable def rDG:R2:=fun x y H Q=>∃a v,x=.ref a/\DGet H a y (some v)/\Q v H
noncomputable def kO:D->D->Option Rz:=fun d1 d2=>(atD d1 d2).bind fun o=>o.bind fun d=>some (d,false)
theorem mZ:RdOp K rDG kO:=by
 intro Y H x y d1 d2 z Q lv b1 b2 e q;refine bsO e fun o e1 e=>?_;obtain⟨d,rfl,e⟩:=Option.bind_eq_some_iff.mp e;cases e;obtain⟨a,r,rfl,g,h|⟨v,d',rfl,h2,da⟩⟩:=Gi b1 b2 e1
 ·cases h.2
 ·cases h2;exact⟨a,v,rfl,g,q v H (Same.refl H) da⟩
noncomputable def Gj(neg:Bool):R2:=fun y x H Q=>∃(a:Addr)(o:Option V),x=.ref a/\DGet H a y o/\Q (.bl (if neg then !o.isSome else o.isSome)) H
noncomputable def Eu(neg:Bool):D->D->Option Rz:=fun d2 d1=>(atD d1 d2).bind fun o=>some (.bl (if neg then !o.isSome else o.isSome),false)
theorem Ev(neg:Bool):RdOp K (Gj neg) (Eu neg):=by
 intro Y H y x d2 d1 z Q lv b2 b1 e q;refine bsO e fun o e1 e=>?_;cases e;obtain⟨a,r,rfl,g,h⟩:=Gi b1 b2 e1;refine⟨a,r,rfl,g,?_⟩;have:r.isSome=o.isSome:=by
  rcases h with⟨rfl,rfl⟩|⟨v,d,rfl,rfl,_⟩<;>rfl
 rw[this];exact q _ H (Same.refl H) (.bl _)
noncomputable def CN:wo:=fun x k v H Q=>∃a,x=.ref a/\Fn H a k v Q
noncomputable def pV:D->D->D->Option D
 | .dt kvs,.tup ds,v=>(vP ds).bind fun ks=>if kvs.length<100000 then some (.dt (iw kvs ks v)) else none
 | .dk kvs,d,v=>(keyD d).bind fun k=>if kvs.length<100000 then some (.dk (iw kvs k v)) else none
 | _,_,_=>none
theorem lK:yc K CN pV:=by
 intro Y H p x k v dk dv x' Q hp ho bk da e q;have lim:(100000:Nat)<=sizeLine:=by rw[sizeLine_eq];decide
 cases x with
 | dt kvs =>
  cases dk with
  | tup ds =>
   refine bsO e fun ks e1 e=>?_;by_cases c:kvs.length<100000
   ·rw[if_pos c]at e;cases e;obtain⟨ep,kv,ka,h1,h2,h3⟩:=ho;obtain⟨b,vs,rfl,t,el⟩:=bk;have:=ul el e1;subst this;have g:Go (DA K Y H) kv kvs:=⟨h2,h3⟩;refine⟨p,rfl,.inr ⟨ep,kv,ks,b,h1,rfl,t.1,by have:=g.len;lia,fun n=>q _ ?_⟩⟩
    have g':=(g.put ks da).map (S:=DA K Y (upd H p (.dT (n,wx ep.2 kv ks b) (putK kv ks v)))) fun v d h=>h.upd hp;refine⟨(n,wx ep.2 kv ks b),_,KA.go (Y:=Y) (H:=H) (fun c hc=>?_) (fun c o e n=>by rw[aT fun z=>n (by rw[z];exact hp)];exact e) (fun c z=>.inl z),br,g'.1,g'.2⟩
    unfold wx at hc;split at hc
    ·exact ka c hc
    ·rcases Xc.mp hc with hc|hc
     ·exact ka c hc
     ·rw[Wb.mp hc];exact⟨t.2,by rw[t.1];simp⟩
   ·rw[if_neg c]at e;cases e
  | _=>cases e
 | dk kvs =>
  refine bsO e fun kk e1 e=>?_;by_cases c:kvs.length<100000
  ·rw[if_pos c]at e;cases e;obtain⟨kv,h1,h2,h3⟩:=ho;have:=CM bk e1;subst this;have g:Go (DA K Y H) kv kvs:=⟨h2,h3⟩;refine⟨p,rfl,.inl ⟨kv,kk,h1,rfl,by have:=g.len;lia,q _ ?_⟩⟩
   have g':=(g.put kk da).map (S:=DA K Y (upd H p (.dK (putK kv kk v)))) fun v d h=>h.upd hp;exact⟨_,br,g'.1,g'.2⟩
  ·rw[if_neg c]at e;cases e
 | _=>cases e
noncomputable def vQ(d:D):FE:=fun st=>some (.f d,st)
theorem zn:RdE K xM (vQ (.dt [])):=by
 intro st σ H O Z Q E r st' h q;cases h;intro p hp;have hres:RES K (U O Z) H (upd H p (.dT (0,[]) [])) (.ref p) (.dt [],true):=⟨p,rfl,hp,(0,[]),[],(fun _ z=>nomatch z),br,rfl,fun i v d a _=>by simp at a⟩
 obtain⟨E3,rv⟩:=hres.rv E (bj hp _);exact q _ _ O (Same.ext (bj hp _)) (Kp.refl _) E3 rv fun p' e=>by cases e;exact hp
theorem zo:RdE K xL (vQ (.dk [])):=by
 intro st σ H O Z Q E r st' h q;cases h;intro p hp;have hres:RES K (U O Z) H (upd H p (.dK [])) (.ref p) (.dk [],true):=⟨p,rfl,hp,[],br,rfl,fun i v d a _=>by simp at a⟩
 obtain⟨E3,rv⟩:=hres.rv E (bj hp _);exact q _ _ O (Same.ext (bj hp _)) (Kp.refl _) E3 rv fun p' e=>by cases e;exact hp
end
section
variable {X:Cx}
theorem kP{o i:Expr}{td ty:TE}{pos:Pos}(hu:X.A.units+1<cLine)(ho:PE X o td)(hi:PE X i ty)(hs:Dj i):PE X (.Subscript o i pos) (tOp rDG td ty):=AG hu ho hi hs
theorem wZ(hu:X.A.units+1<cLine):OpR X (compareOp .NotIn) (Gj true):=by
 intro pins s σ H y x v u Q I ry rx h;obtain⟨a,o,rfl,g,q⟩:=h;cases rx;exact AE hu I g ry fun s' I'=>⟨.bl (!o.isSome),H,I',rfl,q⟩
theorem lL(hu:X.A.units+1<cLine):C5 X CN:=by
 intro pins s σ H o i v ov iv u Q I ro ri rv h;obtain⟨a,rfl,g⟩:=h;cases ro;exact wz hu I g ri rv fun s' H' I' q=>⟨H',I',q⟩
end
end VF22
namespace VF22
open PySem PySem.Spec PyProof.Rows L2 VF
section
variable {prog:Program}{w:World}{A:Around}{E:Value->Shared->Prop}{s:Shared}
noncomputable def RawD(h:Heap)(d:Addr)(es:Array DictEntry)(ep:Nat):Prop:=∃o,h.get? d=some o/\o.ExactDict/\o.data=.dict es ep
theorem RawD.at{h h':Heap}{d:Addr}{es:Array DictEntry}{ep:Nat}(x:RawD h d es ep)(e:∀o,h.get? d=some o->h'.get? d=some o):RawD h' d es ep:=let ⟨o,ho,r⟩:=x;⟨o,e _ ho,r⟩
theorem RawD.typeIs{d:Addr}{es:Array DictEntry}{ep:Nat}(x:RawD s.heap d es ep):s.TypeIs (.ref d) "dict":=let ⟨o,ho,c,_⟩:=x;⟨o,ho,c.1⟩
theorem zp{d:Addr}{es:Array DictEntry}{ep:Nat}{Q:Value->Shared->Prop}(hd:(d == sysModules)=false)(hm:RawD s.heap d es ep)
  (q:Q (.ref s.heap.objs.size) { s with heap:=s.heap.push { cls:=.type "dict_keyiterator",data:=.fields #[.ref d,.int 0 0,.int es.size 0,.int ep 0] } }) :
  wpAny (model prog w) A (pyIter (.ref d)) Q E s:=by
 have ty:=hm.typeIs;obtain⟨o,ho,hc,dat⟩:=hm;refine wpAny_pyIter_slot ty F.slot_dict_iter (wpAny_call_entry F.slot_dict_iter ty F.entry_dict_iter ?_ (F.args_dict_iter_1 _));unfold Builtin.«dict.__iter__»;refine wpAny_bind ?_;unfold Builtin.Dict.dictSlotNone;refine wpAny_bind (wpAny_notOrdered_dict ty ?_);show wpAny _ _ (pure (Value.ref d)) _ _ s;refine wpAny_pure ?_;show wpAny _ _ (Builtin.Dict.showsAll d >>= _) _ _ s;unfold Builtin.Dict.showsAll;rw[if_neg (by rw[hd];exact Yd)]
 refine wpAny_bind (wpAny_pure (wpAny_bind (wpAny_dictEntries ho dat (wpAny_bind (wpAny_dictEpoch ho dat ?_)))));refine wpAny_bind (wpAny_newObj_type (wpAny_pure ⟨_,rfl,"dict_keyiterator",_,⟨_,Heap.get?_push_size _ rfl,rfl⟩,F.slot_dict_keyiterator_next.lookup,?_⟩));simpa[rawInt]using q
theorem zq{it d:Addr}{i ep:Nat}{es:Array DictEntry}{x:DictEntry}{Q:Option Value->Shared->Prop}(hit:s.heap.IsKeyIter it d i es.size ep)(hm:RawD s.heap d es ep)(hx:es[i]?=some x)
  (q:∀h',h'.IsKeyIter it d (i+1) es.size ep->Heap.SameBut it s.heap h'->Q (some x.key) { s with heap:=h' }):wpAny (model prog w) A (pyNext (.ref it)) Q E s:=by
 obtain⟨o,ho,hc,hd⟩:=id hit;obtain⟨od,hod,hcd,hdd⟩:=hm;unfold pyNext;refine wpAny_bind (wpAny_attempt (wpAny_callSpecial?_slot (name:=Str.ofString "__next__") hit.typeIs F.slot_dict_keyiterator_next (wpAny_call_entry F.slot_dict_keyiterator_next hit.typeIs F.entry_dict_keyiterator_next ?_ (F.args_dict_keyiterator_next_1 _))));refine wpAny_bind (wpAny_pure (wpAny_bind (wpAny_bind ?_)));refine wpAny_bind (wpAny_typeNameOfWhole_keyiter hit.typeIs (wpAny_pure (wpAny_bind (wpAny_fieldsOf ho hd ?_))));have own:Builtin.Dict_items.ownsTuple "dict_keyiterator"=false:=by decide
 simp only[own,Qe,if_false];show wpAny _ _ (if (Value.ref d == Value.none)=true then _ else _) _ _ s;rw[if_neg (show ¬ ((Value.ref d == Value.none)=true) from Yd)];refine wpAny_bind (wpAny_pure (wpAny_bind (wpAny_dictEntries hod hdd ?_)));rw[if_neg (by simp)];refine wpAny_bind (wpAny_pure (wpAny_bind (wpAny_dictEpoch hod hdd ?_)))
 rw[if_neg (by simp)];refine wpAny_pure ?_
 have hlt:i<es.size:=(Array.getElem?_eq_some_iff.mp hx).1;have ex:es[i]=x:=(Array.getElem?_eq_some_iff.mp hx).2;simp only[show ¬ ((i:Int)<0) from by lia,if_false,Int.toNat_natCast,hx]
 refine wpAny_bind (wpAny_bind (wpAny_typeNameOfWhole_keyiter hit.typeIs (wpAny_pure (wpAny_bind (wpAny_isOneOf_keyiter hit.typeIs ?_)))));show wpAny _ _ (setField (.ref it) 1 (rawInt ((i:Int)+1)) >>= _) _ _ s;refine wpAny_bind (wpAny_setField ho hd (by simp) ?_)
 have hit':(s.heap.update it (Obj.mapFields (·.setIfInBounds 1 (rawInt ((i:Int)+1))))).IsKeyIter it d (i+1) es.size ep:=⟨_,Heap.get?_update_self _ ho (Obj.isFreed_of_fields (Obj.data_mapFields hd _)),(Obj.cls_mapFields ..).trans hc,by rw[Obj.data_mapFields hd];simp[rawInt]⟩
 refine wpAny_bind (wpAny_holding (wpAny_bind (wpAny_isOneOf_keyiter (s:={ s with heap:=s.heap.update it (Obj.mapFields (·.setIfInBounds 1 (rawInt ((i:Int)+1)))) }) hit'.typeIs ?_)));show wpAny _ _ (pure x.key) _ _ _;exact wpAny_pure (wpAny_pure ⟨_,rfl,wpAny_pure (q _ hit' (Heap.SameBut.update ..))⟩)
theorem BB{it d:Addr}{i ep:Nat}{es:Array DictEntry}{Q:Option Value->Shared->Prop}(hh:A.handled=none)(hit:s.heap.IsKeyIter it d i es.size ep)(hm:RawD s.heap d es ep)(hx:es.size<=i)
  (q:∀h',Heap.ExtBut it s.heap h'->Q none { s with heap:=h' }):wpAny (model prog w) A (pyNext (.ref it)) Q E s:=by
 obtain⟨o,ho,hc,hd⟩:=id hit;obtain⟨od,hod,hcd,hdd⟩:=hm;unfold pyNext;refine wpAny_bind (wpAny_attempt (wpAny_callSpecial?_slot (name:=Str.ofString "__next__") hit.typeIs F.slot_dict_keyiterator_next (wpAny_call_entry F.slot_dict_keyiterator_next hit.typeIs F.entry_dict_keyiterator_next ?_ (F.args_dict_keyiterator_next_1 _))));refine wpAny_bind (wpAny_pure (wpAny_bind (wpAny_bind ?_)));refine wpAny_bind (wpAny_typeNameOfWhole_keyiter hit.typeIs (wpAny_pure (wpAny_bind (wpAny_fieldsOf ho hd ?_))));have own:Builtin.Dict_items.ownsTuple "dict_keyiterator"=false:=by decide
 simp only[own,Qe,if_false];show wpAny _ _ (if (Value.ref d == Value.none)=true then _ else _) _ _ s;rw[if_neg (show ¬ ((Value.ref d == Value.none)=true) from Yd)];refine wpAny_bind (wpAny_pure (wpAny_bind (wpAny_dictEntries hod hdd ?_)));rw[if_neg (by simp)];refine wpAny_bind (wpAny_pure (wpAny_bind (wpAny_dictEpoch hod hdd ?_)))
 rw[if_neg (by simp)];refine wpAny_pure ?_
 simp only[show ¬ ((i:Int)<0) from by lia,if_false,Int.toNat_natCast,Array.getElem?_eq_none hx]
 refine wpAny_bind (wpAny_bind (wpAny_typeNameOfWhole_keyiter hit.typeIs (wpAny_pure ?_)));show wpAny _ _ (setField (.ref it) 0 .none >>= _) _ _ s;refine wpAny_bind (wpAny_setField ho hd (by simp) ?_)
 show wpAny _ _ (newExc (.type "StopIteration") [] >>= _) _ _ _;refine wpAny_bind ?_;simp only[newExc,newTuple];refine wpAny_bind (wpAny_newObj_type ?_ (by size_fits))
 refine wpAny_bind (m:=firstArgMember _ _) (wpAny_of_eq (a:=Value.none) (by first|rfl|(simp only[firstArgMember];rfl)) (wpAny_newObj_type ?_ (by size_fits)))
 simp only[raiseNew];refine wpAny_bind (wpAny_handled ?_);rw[show A.in1.handled=none from hh];refine wpAny_bind (wpAny_pure (wpAny_throw ?_));refine wpAny_bind (wpAny_isInstance (T:="StopIteration") (b:=true) ⟨_,Heap.get?_push_size _ rfl,rfl⟩ isSubtype_stop (wpAny_pure (q _ ?_)));exact((Heap.SameBut.update ..).extBut.push _).push _
theorem w4(hh:A.handled=none)(I d:Addr)(hne:d≠I)(es:Array DictEntry)(ep:Nat) :
  Walks prog w A I [I,d] [I] es.size (fun i v=>(es[i]?).map (·.key)=some v) (fun i h=>h.IsKeyIter I d i es.size ep/\RawD h d es ep) where
 sub:=fun b hb=>by simp at hb;simp[hb]
 frame:=fun _ _ _ st hk=>⟨st.1.at fun o e=>hk I (by simp) o e,st.2.at fun o e=>hk d (by simp) o e⟩
 item:=fun i s Q E hi st hQ=>by
  have hx:es[i]?=some es[i]:=Array.getElem?_eq_getElem hi;refine zq st.1 st.2 hx fun h' hit' hs'=>hQ _ h' s.toks (by rw[hx];rfl) ⟨hit',st.2.at fun o e=>hs'.extBut d o hne e⟩ fun b o hb e=>hs'.extBut b o (fun z=>hb (by simp[z])) e
 done:=fun s Q E st hQ=>BB hh st.1 st.2 (Va _) fun h' he'=>hQ h' s.toks fun b o hb e=>he' b o (fun z=>hb (by simp[z])) e
 self:=fun _ _ _ _ st hQ=>wpAny_pyIter_keyiter st.1 hQ
end
end VF22
namespace VF22
open PySem PySem.Spec PyProof.Rows L2 VF
section
variable {P:Program}{w:World}{H:Hp}{h:Heap}{a:Addr}{ep:Nat×List Addr}{kvs:List (List Key×V)}
theorem Ew(ok:HOk P w H h)(e:H a=some (.dT ep kvs)):kvs.length<=sizeLine/\(a == sysModules)=false/\∃(xs:List (List Key×Addr×Value))(es:Array DictEntry),KT H kvs xs/\xs.map (·.2.1)=ep.2/\es.toList=xs.map (entryOfKey (tupleKind (cG P w)))/\RawD h a es ep.1/\es.size=kvs.length:=by
 obtain⟨z,y,xs,r,ra,o,es,h1,h2,h3,h4,h5⟩:=(show ObjOk P w H h a (.dT ep kvs) from ok a _ e);refine⟨z,y,xs,es,r,ra,h4,⟨o,h1,h2,h3⟩,?_⟩;have:=congrArg List.length h4;rw[Ya,Yc]at this;rw[this,← Paired.length r]
theorem Ex{xs:List (List Key×Addr×Value)}{es:Array DictEntry}(r:KT H kvs xs)(ra:xs.map (·.2.1)=ep.2)(he:es.toList=xs.map (entryOfKey (tupleKind (cG P w)))){i:Nat}{x:DictEntry}(hx:es[i]?=some x) :
  ∃k v b,kvs[i]?=some (k,v)/\ep.2[i]?=some b/\x.key=.ref b/\H b=some (.tup (k.map kV)):=by
 rw[← Wg,he,Wc]at hx;obtain⟨q,e1,e2⟩:=Xd.mp hx;have hb:ep.2[i]?=some q.2.1:=by rw[← ra,Wc,e1];rfl
 have hl:=Paired.length r;have hi:i<kvs.length:=by rw[hl];exact(Yb.mp e1).1
 have go:∀{l:List (List Key×V)}{m:List (List Key×Addr×Value)},KT H l m->∀{j:Nat}{p:List Key×V}{q:List Key×Addr×Value},l[j]?=some p->m[j]?=some q->H q.2.1=some (.tup (p.1.map kV)):=fun {l m} t=>by
  induction t with
  | nil=>intro j p q h1;simp at h1
  | cons hq t ih =>
   intro j p q h1 h2;cases j with
   | zero =>
    cases h1;cases h2;exact hq.2.1
   | succ j=>exact ih (by simpa using h1) (by simpa using h2)
 have ek:kvs[i]?=some (kvs[i].1,kvs[i].2):=Za hi;refine⟨kvs[i].1,kvs[i].2,q.2.1,ek,hb,by rw[← e2];rfl,go r ek e1⟩
end
section
variable {X:Cx}{K:PySem.W.Frag}{O O' Z:AS}{H H':Hp}{tg:Expr}
noncomputable def f8:Key->D
 | .inl i=>.int i
 | .inr x=>.str x
theorem Ey{Y:AS}(k:Key):DA K Y H (kV k) (f8 k):=by
 cases k with
 | inl i=>exact .int i
 | inr x=>exact .str x
theorem qK{Y:AS}:∀ks:List Key,El K Y H (ks.map kV) (ks.map f8)
 | []=>El.nil
 | k::r=>El.cons (Ey k) (qK r)
theorem sH{Y:AS}{b:Addr}{k:List Key}(h:H b=some (.tup (k.map kV)))(n:¬ Y b):DA K Y H (.ref b) (.tup (k.map f8)):=.tup ⟨h,n⟩ (qK (K:=K) (H:=H) (Y:=Y) k).1 (qK k).2
noncomputable def qL:D->Option (List D)
 | .dt kvs=>some (kvs.map fun kv=>.tup (kv.1.map f8))
 | _=>none
end
end VF22
namespace VF22
open PySem PySem.Spec PyProof.Rows L2 VF TS
section
variable {prog:Program}{w:World}{A:Around}{E:Value->Shared->Prop}{s:Shared}
theorem RawD.lt{h:Heap}{d:Addr}{es:Array DictEntry}{ep:Nat}(x:RawD h d es ep):d<h.objs.size:=let ⟨_,ho,_⟩:=x;Heap.lt_size ho
theorem BC{d:Addr}{es:Array DictEntry}{ep:Nat}(lo:(d == sysModules)=false):PySem.W.KdlSrc prog w "dict" d d es.size (fun i v=>(es[i]?).map (·.key)=some v) (fun h=>RawD h d es ep) where
 type:=fun _ m=>m.typeIs
 there:=fun _ m=>⟨m.lt,m.lt⟩
 keep:=fun _ _ m k=>m.at fun o e=>k d (.inl rfl) o e
 notList:=by decide
 notTuple:=by decide
 hint:=fun _ _ _ _ m q=>PySem.W.kdl_hint_dict m.typeIs q
 iter:=fun _ _ hh m=>⟨_,_,(fun _ _ q=>zp lo m q),w4 hh _ d (Zg m.lt) es ep,⟨⟨_,Heap.get?_push_size _ rfl,rfl,rfl⟩,m.at fun o e=>Heap.get?_push_of_some _ e⟩⟩
theorem sI{d:Addr}{es:Array DictEntry}{ep:Nat}{Q:List Value->Shared->Prop}(hh:A.handled=none)(lo:(d == sysModules)=false)(hm:RawD s.heap d es ep)(hz:es.size<=sizeLine)
  (q:∀h' tk,(∀b o,s.heap.get? b=some o->h'.get? b=some o)->Q (es.toList.map (·.key)) { s with heap:=h',toks:=tk }):wpAny (model prog w) A (collect (.ref d)) Q E s:=by
 refine PySem.W.kdu_collect (BC lo) hh hm hz fun h' tk acc' kp hi=>?_;have e:acc'.toList=es.toList.map (·.key):=by
  refine List.ext_getElem (by rw[Yc,hi.1,Ya,Yc]) fun i h1 h2=>?_
  have a:(es[i]?).map (·.key)=some acc'[i]:=hi.2 i acc'[i] (Array.getElem?_eq_getElem (by simpa using h1))
  rw[Array.getElem?_eq_getElem (by rw[Ya,Yc]at h2;exact h2)]at a
  have a':=Option.some.inj a;rw[Array.getElem_toList,List.getElem_map,Array.getElem_toList];exact a'.symm
 rw[e];exact q h' tk kp
theorem w5{x:Value}{vs:List Value}{ds:List D}{κ:SortKind}{Q:Value->Shared->Prop}(hh:A.handled=none)
  (coll:∀(A:Around)(E:Value->Shared->Prop)(Q:List Value->Shared->Prop),A.handled=none->(∀h' tk,(∀b o,s.heap.get? b=some o->h'.get? b=some o)->Q vs { s with heap:=h',toks:=tk })->wpAny (model prog w) A (collect x) Q E s)(hz:vs.length<=sizeLine)
  (hn:vs.length=ds.length) (r:∀(i:Nat) u d,vs[i]?=some u->ds[i]?=some d->RH s.heap u d) (pl:∀d∈ds,Pl 40 d) (ca:CA 40 ds) (hk:Kd ds κ) (hu:A.units+64<cLine)
  (fin:∀(γ:Array Nat)(h':Heap)(a:Addr)(n tk:Nat),γ.Perm (Array.range vs.length)->Sg (cD ds) γ 0 vs.length->(∀b o,s.heap.get? b=some o->h'.get? b=some o)->(∀b o,s.heap.get? b=some o->b≠a)->h'.get? a=some (seqObj "list" (bL vs γ) n)->Q (.ref a) { s with heap:=h',toks:=tk }) :
  wpAny (model prog w) A (call (.builtin "sorted") [x]) Q E s:=by
 refine Calls.call_function_entry kind_sorted plain_sorted entry_sorted (args_sorted1 _) ?_;refine wpAny_bind (m:=checkCount "sorted" 1 1 _) (wpAny_pure (wpAny_bind (coll _ _ _ hh fun h1 tk kp=>wpAny_bind (wpAny_newList ?_))));have mine:(h1.push (seqObj "list" vs.toArray 0)).get? h1.objs.size=some (seqObj "list" vs.toArray 0):=Heap.get?_push_size _ rfl;show wpAny _ _ _ _ _ { s with heap:=h1.push (seqObj "list" vs.toArray 0),toks:=tk };refine wpAny_bind (wpAny_holding (wpAny_call_entry slot_list_sort ⟨_,mine,rfl⟩ entry_list_sort ?_ (args_list_sort _)));have old2:∀b o,s.heap.get? b=some o->b≠h1.objs.size:=fun b o e=>Zg (Heap.lt_size (kp b o e));refine pU (s:={ s with heap:=h1.push (seqObj "list" vs.toArray 0),toks:=tk }) mine hz hn (fun i u d e1 e2=>(r i u d e1 e2).kept fun b o e=>?_) pl ca hk (by show A.units+1+1+40<cLine;lia) fun γ p g=>?_
 ·exact Heap.get?_push_of_some _ (Heap.get?_push_of_some _ ((Heap.get?_update_ne _ _ _ _ (old2 b o e)).trans (Heap.get?_push_of_some _ (kp b o e))))
 ·obtain⟨n,hn'⟩:=sortedHeap_at (n:=0) (vs:=vs) (out:=bL vs γ) mine;refine⟨_,rfl,wpAny_pure ⟨_,rfl,fin γ _ _ n tk p g (fun b o e=>?_) old2 hn'⟩⟩;have hb:b<(h1.push (seqObj "list" vs.toArray 0)).objs.size:=by rw[size_push'];exact Nat.lt_succ_of_lt (Heap.lt_size (kp b o e))
  rw[sortedHeap_old (old2 b o e) hb];exact Heap.get?_push_of_some _ (kp b o e)
end
section
variable {X:Cx}{K:PySem.W.Frag}{Y:AS}{H:Hp}
noncomputable def zr:List V->Hp->VK->Prop:=fun xs H Q=>∃(a:Addr)(ep:Nat×List Addr)(kvs:List (List Key×V))(κ:SortKind),xs=[.ref a]/\H a=some (.dT ep kvs)/\(∀x∈kvs.map (fun kv=>D.tup (kv.1.map f8)),Pl 40 x)/\CA 40 (kvs.map fun kv=>D.tup (kv.1.map f8))/\Kd (kvs.map fun kv=>D.tup (kv.1.map f8)) κ /\
 ∀(p:Addr)(bs:List Addr),H p=none->(∀b∈bs,b∈ep.2)->(∃ks:List (List Key),ks.map (fun k=>D.tup (k.map f8))=dZ 40 (kvs.map fun kv=>D.tup (kv.1.map f8))/\bs.length=ks.length/\∀(i:Nat) b k,bs[i]?=some b->ks[i]?=some k->H b=some (.tup (k.map kV)))->Q (.ref p) (upd H p (.lst (bs.map V.ref)))
theorem n4{n:Nat}(h:X.K=K)(hc:X.calm=true)(hr:Room n X.A):CallR X (.builtin "sorted") zr:=by
 intro pins s σ H xs us Q I rv hh;obtain⟨a,ep,kvs,κ,rfl,ha,pl,ca,hk,q⟩:=hh;obtain⟨u,rfl,ru⟩:=vals1 rv;cases ru;obtain⟨hz,lo,xs,es,rk,ra,he,rw',esz⟩:=Ew I.hok ha;have key:∀(i:Nat)(x:DictEntry),es[i]?=some x->∃k v b,kvs[i]?=some (k,v)/\ep.2[i]?=some b/\x.key=.ref b/\H b=some (.tup (k.map kV)):=fun i x hx=>Ex rk ra he hx;have ln:(es.toList.map (·.key)).length=(kvs.map fun kv=>D.tup (kv.1.map f8)).length:=by rw[Ya,Ya,Yc,esz]
 have at_:∀(i:Nat) u,(es.toList.map (·.key))[i]?=some u->∃k v b,kvs[i]?=some (k,v)/\ep.2[i]?=some b/\u=.ref b/\H b=some (.tup (k.map kV)):=fun i u e=>by
  rw[Wc]at e;obtain⟨x,e1,e2⟩:=Xd.mp e;obtain⟨k,v,b,g1,g2,g3,g4⟩:=key i x (by rw[← Wg];exact e1)
  exact⟨k,v,b,g1,g2,by rw[← e2];exact g3,g4⟩
 refine w5 (vs:=es.toList.map (·.key)) (ds:=kvs.map fun kv=>D.tup (kv.1.map f8)) (κ:=κ) (I.ok.hd hc) (fun A E Q hA q=>sI hA lo rw' (by rw[esz];exact hz) q) (by rw[Ya,Yc,esz];exact hz) ln (fun i u d e1 e2=>?_) pl ca hk hr.units fun γ h' p n tk pm g kp ge hat=>?_
 ·obtain⟨k,v,b,g1,g2,rfl,g4⟩:=at_ i u e1;have e2':=e2;rw[Wc,g1]at e2;cases e2;have da:DA K (fun _=>False) H (.ref b) (.tup (k.map f8)):=sH g4 fun z=>z;exact da.rh (pl _ (Wa e2')) I h rfl
 ·rw[ln]at pm g;have hpn:H p=none:=by
   cases e:H p with
   | none=>rfl
   | some o =>
    obtain⟨ob,e'⟩:=(I.hok p o e).there;exact absurd rfl (ge p ob e')
  have eo:=zk ca pm g;have hγ:∀g∈γ.toList,g<kvs.length:=fun g hg=>by
   have:=(Yg.mp pm).mem_iff.mp hg;rw[Xm,Ya]at this;exact Zm.mp this
  have las:ep.2.length=kvs.length:=by rw[← ra,Ya,← Paired.length rk]
  have e2:(bL (es.toList.map (·.key)) γ).toList=γ.toList.map fun g=>(es.toList.map (·.key)).getD g .none:=by unfold bL;simp
  have vw:Vals ((γ.toList.map fun g=>ep.2.getD g 0).map V.ref) (bL (es.toList.map (·.key)) γ).toList:=by
   rw[e2,Xg];have:∀l:List Nat,(∀g∈l,g<kvs.length)->Vals (l.map (V.ref ∘ fun g=>ep.2.getD g 0)) (l.map fun g=>(es.toList.map (·.key)).getD g .none):=fun l=>by
    induction l with
    | nil=>exact fun _=>.nil
    | cons g l ih =>
     intro hl;have hg:g<kvs.length:=hl g Zc;have a1:(es.toList.map (·.key))[g]?=some ((es.toList.map (·.key))[g]'(by rw[ln,Ya];exact hg)):=Za _
     obtain⟨k,v,b,g1,g2,g3,g4⟩:=at_ g _ a1;refine .cons ?_ (ih fun x hx=>hl x (Xb _ hx));show(es.toList.map (·.key)).getD g .none=Value.ref (ep.2.getD g 0);rw[Qa,Qa,a1,g2,Option.getD_some,g3];rfl
   exact this _ hγ
  refine⟨.ref p,upd H p (.lst ((γ.toList.map fun g=>ep.2.getD g 0).map V.ref)),I.laid2 kp ge hpn ⟨?_,(bL (es.toList.map (·.key)) γ).toList,n,vw,by simpa using hat⟩,rfl,q p _ hpn (fun b hb=>?_) ⟨γ.toList.map fun g=>(kvs.map (·.1)).getD g [],?_,by simp,fun i b k h1 h2=>?_⟩⟩
  ·rw[Ya,Ya,Yc,pm.size_eq,Qj,Ya];exact hz
  ·obtain⟨g,hg,rfl⟩:=Qc.mp hb;have hg':=hγ g hg;rw[Qa,Za (by lia)]
   exact List.getElem_mem _
  ·rw[← eo,Xg];refine Xk fun g hg=>?_;have hg':=hγ g hg;show D.tup (((kvs.map (·.1)).getD g []).map f8)=_;rw[lZ (d:=D.tup (kvs[g].1.map f8)) (by rw[Wc,Za hg'];rfl),Qa,Wc,Za hg'];rfl
  ·rw[Wc]at h1 h2;obtain⟨g1,k1,k2⟩:=Xd.mp h1;obtain⟨g2,k3,k4⟩:=Xd.mp h2;rw[k1]at k3;cases k3;have hg':=hγ g1 (Wa k1);have a1:(es.toList.map (·.key))[g1]?=some ((es.toList.map (·.key))[g1]'(by rw[ln,Ya];exact hg')):=Za _
   obtain⟨k',v,b',f1,f2,f3,f4⟩:=at_ g1 _ a1;rw[Qa,f2]at k2;rw[Qa,Wc,f1]at k4;subst k2 k4;exact f4
open Classical in
noncomputable def jW:List D->Option Rz
 | [d]=>match qL d with
  | some ds=>if (∀x∈ds,Pl 40 x)/\CA 40 ds/\∃κ,Kd ds κ then some (.lst (dZ 40 ds),true) else none
  | none=>none
 | _=>none
theorem sJ:RdCB K zr jW:=by
 intro Y H xs ds z Q lv bs e q;cases bs with
 | nil=>cases e
 | @cons v vs d ds b1 bs =>
  cases bs with
  | cons _ _=>cases e
  | nil =>
   cases d with
   | dt kd =>
    unfold jW at e;dsimp only[qL]at e;obtain⟨a,ep,kvs,rfl,ka,h1,h2,h3⟩:=b1;have ek:(kd.map fun kv=>D.tup (kv.1.map f8))=kvs.map fun kv=>D.tup (kv.1.map f8):=by
     have:∀{α:Type}(l:List (List Key×α)),(l.map fun kv=>D.tup (kv.1.map f8))=(l.map (·.1)).map fun k=>D.tup (k.map f8):=fun l=>by rw[Xg];rfl
     rw[this,this,h2]
    rw[ek]at e;obtain⟨c,e⟩:=aR e;cases e;obtain⟨c1,c2,κ,c3⟩:=c;refine⟨a,ep,kvs,κ,rfl,h1,c1,c2,c3,fun p bs hp hb ⟨ks,k1,k2,k3⟩=>q _ _ (bj hp _) (fR ?_ hp)⟩;rw[← k1];refine⟨by rw[Ya,Ya,k2],fun i v d e1 e2=>?_⟩
    rw[Wc]at e1 e2;obtain⟨b,f1,rfl⟩:=Xd.mp e1;obtain⟨k,f2,rfl⟩:=Xd.mp e2;exact sH (k3 i b k f1 f2) (ka b (hb b (Wa f1))).1
   | _=>cases e
end
end VF22
namespace VF22
open PySem PySem.Spec PyProof.Rows L2 VF
section
variable {X:Cx}{K:PySem.W.Frag}
@[irreducible] def PAi(X:Cx)(es:List Expr)(t:TA):Prop:=PA X es t
theorem BD:PAi X [] wv:=by unfold PAi;exact ag
theorem sK{e:Expr}{es:List Expr}{te:TE}{t:TA}(ha:PE X e te)(hr:PAi X es t)(h:tW e=true):PAi X (e::es) (kz te t):=by
 unfold PAi at *;exact aw ha hr h
theorem BE{es:List Expr}{t:TA}{pos:Pos}(h:PAi X es t):PE X (.List es pos) (Df t):=by
 unfold PAi at h;exact cC h
end
end VF22
namespace VF
open PySem L2 PySem.Spec PyProof.Rows
section
variable {X:Cx}{K:PySem.W.Frag}
noncomputable def zt:V->List V->Hp->VK->Prop:=fun x vs H Q=>∃(a b:Str),x=.str a/\vs=[.str b]/\a.length<=1000000/\Q (.str (Txt.stripChars a b)) H
theorem sL:MtR X "str.strip" zt:=by
 intro pins s σ H x vs v us Q I rx rv h;obtain⟨a,b,rfl,rfl,hz,q⟩:=h;obtain⟨t,rfl⟩:=rx;obtain⟨u,rfl,ru⟩:=vals1 rv;obtain⟨t',rfl⟩:=ru;exact SC.stripChars (fun t' k=>⟨.str _,H,I.tok k,⟨t',rfl⟩,q⟩) (Xe hz (by decide))
noncomputable def iL:D->List D->Option Rz
 | .str a,[.str b]=>if a.length<=1000000 then some (.str (Txt.stripChars a b),false) else none
 | _,_=>none
theorem sM:yz K zt iL:=by
 intro Y H x xs d ds z Q lv b1 bs e q;cases d with
 | str a =>
  cases bs with
  | nil=>cases e
  | @cons v vs d ds b2 bs =>
   cases bs with
   | cons _ _=>cases d<;>cases e
   | nil =>
    cases d with
    | str b =>
     obtain⟨c,e⟩:=aR e;cases e;exact⟨a,b,b1,by rw[show v=V.str b from b2],c,q _ H (Same.refl H) (.str _)⟩
    | _=>cases e
 | _=>cases e
noncomputable def zu(K:PySem.W.Frag):V->List V->Hp->VK->Prop:=fun x vs H Q=>∃(p:Addr)(ys:List Str)(b:Str),x=.ref p/\vs=[.str b]/\SqL K H p (ys.map V.str)/\b∈ys/\Q (.int (ys.idxOf b:Nat)) H
theorem sN(h:X.K=K):MtR X "list.index" (zu K):=by
 intro pins s σ H x vs v us Q I rx rv hh;obtain⟨p,ys,b,rfl,rfl,sq,hb,q⟩:=hh;subst h;cases rx;obtain⟨u,rfl,ru⟩:=vals1 rv;obtain⟨t,rfl⟩:=ru;obtain⟨its,r,pl,hz⟩:=I.list sq;obtain⟨o,n,e,hc,hd,hs⟩:=id pl;have hlen:its.length=ys.length:=by have:=r.length;simpa using this.symm
 have hj:ys.idxOf b<ys.length:=List.idxOf_lt_length_iff.mpr hb;obtain⟨cls,dd,data,sl⟩:=o;simp only at hc hs;subst hc hs;have itAt:∀(i:Nat) v,its[i]?=some v->∃y t',ys[i]?=some y/\v=.str y t':=fun i v hv=>by
  obtain⟨w,e1,rw'⟩:=dm r i v hv;rw[Wc]at e1;obtain⟨y,e2,rfl⟩:=Xd.mp e1;obtain⟨t',rfl⟩:=rw';exact⟨y,t',e2,rfl⟩
 have hyl:ys.length<=2 ^ 24:=by rw[Ya]at hz;exact hz
 let is:Value->Bool:=fun v=>match v with
  | .str y _=>y == b
  | _=>false
 refine call_meets PySem.F.slot_list_index ⟨_,e,rfl⟩ PySem.F.entry_list_index (PySem.F.args_list_index_2 _ _)
  (PySem.SeqAt.list_indexAt p its.toArray n dd sl (.str b t) is (ys.idxOf b) (by simpa[hlen]using hj) (by lia) ?_ ?_) ⟨e,fun y hy=>?_,?_⟩
 ·have hv:its[ys.idxOf b]?=some its[ys.idxOf b]:=Za (by lia)
  obtain⟨y,t',e1,e2⟩:=itAt _ _ hv;show is its[ys.idxOf b]=true;rw[e2];have:y=b:=by
   rw[Za hj]at e1;have:=Option.some.inj e1;rw[← this];exact List.getElem_idxOf hj
  show(y == b)=true;rw[this];simp
 ·intro m hm hlt;have hm':m<its.length:=by simpa using hm
  have hv:its[m]?=some its[m]:=Za hm';obtain⟨y,t',e1,e2⟩:=itAt _ _ hv;show is its[m]=false;rw[e2];show(y == b)=false;have hmy:m<ys.length:=by lia
  have:=List.not_of_lt_findIdx (p:=(· == b)) (xs:=ys) (i:=m) hlt;rw[Za hmy]at e1;rw[← Option.some.inj e1];simpa using this
 ·obtain⟨i,hi⟩:=Yl (show y∈its by simpa using hy)
  obtain⟨z,t',_,rfl⟩:=itAt i y hi;exact PySem.SeqAt.EqAt.str_str _ _ _ _
 ·exact⟨.int _,H,I.tok _,⟨_,rfl⟩,q⟩
noncomputable def bIndex:D->List D->Option Rz
 | .lst ds,[.str b]=>(fY ds).bind fun ys=>if b∈ys then some (.int (ys.idxOf b:Nat),false) else none
 | _,_=>none
theorem sO:yz K (zu K) bIndex:=by
 intro Y H x xs d ds z Q lv b1 bs e q;cases d with
 | lst es =>
  cases bs with
  | nil=>cases e
  | @cons v vs d ds b2 bs =>
   cases bs with
   | cons _ _=>cases d<;>cases e
   | nil =>
    cases d with
    | str b =>
     refine bsO e fun ys e1 e=>?_;obtain⟨c,e⟩:=aR e;cases e;obtain⟨p,ws,rfl,hp,el⟩:=b1;obtain rfl:=jj el e1;exact⟨p,ys,b,rfl,by rw[show v=V.str b from b2],.inl (.inl hp),c,q _ H (Same.refl H) (.int _)⟩
    | _=>cases e
 | _=>cases e
noncomputable def ltS(x y:Str):Bool:=decide (x.cps.toList<y.cps.toList)
noncomputable def vR(ys:List Str):Nat:=argBest (fun i j=>ltS (ys.getD i Str.empty) (ys.getD j Str.empty)) (ys.length-1)
noncomputable def fm(ys:List Str):Str:=ys.getD (vR ys) Str.empty
noncomputable def CO(K:PySem.W.Frag):List V->Hp->VK->Prop:=fun xs H Q=>∃(p:Addr)(ys:List Str),xs=[.ref p]/\SqL K H p (ys.map V.str)/\ys≠[]/\Q (.str (fm ys)) H
theorem pW(h:X.K=K)(hc:X.calm=true):CallR X (.builtin "min") (CO K):=by
 intro pins s σ H xs us Q I rv hh;obtain⟨p,ys,rfl,sq,hne,q⟩:=hh;subst h;obtain⟨u,rfl,ru⟩:=vals1 rv;cases ru;obtain⟨its,r,pl,hz⟩:=I.list sq;have hlen:its.length=ys.length:=by have:=r.length;simpa using this.symm
 obtain⟨op,np,ep,cp,dp,sp⟩:=id pl;have hpn:p≠s.heap.objs.size:=Zg (Heap.lt_size ep);have hpos:=Vg.mpr hne;have itAt:∀(i:Nat) v,its.toArray[i]?=some v->∃t',v=.str (ys.getD i Str.empty) t':=fun i v hv=>by
  obtain⟨w,e1,rw'⟩:=dm r i v (by simpa using hv)
  rw[Wc]at e1;obtain⟨y,e2,rfl⟩:=Xd.mp e1;obtain⟨t',rfl⟩:=rw';exact⟨t',by rw[Qa,e2];rfl⟩
 refine call_min_walk (wpAny_pyIter_list pl.isList ?_);refine⟨s.heap.objs.size,_,_,_,_,_,fun i j=>ltS (ys.getD i Str.empty) (ys.getD j Str.empty),rfl,Walks.list (show X.A.in1.handled=none from I.ok.hd hc) s.heap.objs.size p hpn its.toArray,⟨⟨_,Heap.get?_push_size _ rfl,rfl,rfl⟩,⟨op,Heap.get?_push_of_some _ ep,cp,np,sp⟩⟩,fun b hb=>?_,by rw[Vb];lia,?_,fun v h' tk hv kp=>?_⟩
 ·show b<(s.heap.push _).objs.size;rw[Heap.size_push];rcases Ze.mp hb with rfl|hb
  ·exact Qm _
  ·obtain rfl:=Wb.mp hb;exact Nat.lt_succ_of_lt (Heap.lt_size ep)
 ·intro i j vi vj s' Q' E' hi hj hq;obtain⟨t1,rfl⟩:=itAt i vi hi;obtain⟨t2,rfl⟩:=itAt j vj hj;exact PyProof.Rows.lt_str hq
 ·obtain⟨t',rfl⟩:=itAt _ v hv;rw[Vb,hlen];refine⟨.str _,H,I.kept (t':=tk) fun b o e=>?_,⟨t',rfl⟩,q⟩;refine kp b o (fun hm=>?_) (Heap.get?_push_of_some _ e);have:=Heap.lt_size e;obtain rfl:=Wb.mp hm;exact Wi _ this
noncomputable def sP:List D->Option Rz
 | [.lst ds]=>(fY ds).bind fun ys=>if ys=[] then none else some (.str (fm ys),false)
 | _=>none
theorem vS:RdCB K (CO K) sP:=by
 intro Y H xs ds z Q lv bs e q;cases bs with
 | nil=>cases e
 | @cons v vs d ds c1 bs =>
  cases bs with
  | cons _ _=>cases d<;>cases e
  | nil =>
   cases d with
   | lst es =>
    refine bsO e fun ys e1 e=>?_;by_cases c:ys=[]
    ·simp only[if_pos c]at e;cases e
    ·simp only[if_neg c]at e;cases e;obtain⟨p,ws,rfl,hp,el⟩:=c1;obtain rfl:=jj el e1;exact⟨p,ys,rfl,.inl (.inl hp),c,q _ H (Same.refl H) (.str _)⟩
   | _=>cases e
end
end VF
namespace VF
open PySem L2 PyProof.Rows TS PySem.SeqAt
noncomputable abbrev KB:=Bool×Str
noncomputable def ltB(p q:KB):Bool:=(!p.1&&q.1)||(p.1 == q.1&&ltS p.2 q.2)
theorem qM(x:Str):ltS x x=false:=decide_eq_false (List.lt_irrefl _)
theorem m5{x y z:Str}(h1:ltS x y=true)(h2:ltS y z=true):ltS x z=true:=decide_eq_true (List.lt_trans (of_decide_eq_true h1) (of_decide_eq_true h2))
theorem vT{x y z:Str}(h:ltS x z=true):ltS x y=true∨ltS y z=true:=by
 have ca:CA 1 [.str x,.str y,.str z]:=fun a ha b hb=>by
  simp at ha hb;rcases ha with rfl|rfl|rfl<;>rcases hb with rfl|rfl|rfl<;>trivial
 exact ca.neg (a:=.str x) (b:=.str y) (c:=.str z) (by simp) (by simp) (by simp) h
theorem jp(p:KB):ltB p p=false:=by
 obtain⟨b,x⟩:=p;unfold ltB;dsimp only;rw[qM];cases b<;>rfl
theorem kQ{p q r:KB}(h1:ltB p q=true)(h2:ltB q r=true):ltB p r=true:=by
 obtain⟨a,x⟩:=p;obtain⟨b,y⟩:=q;obtain⟨c,z⟩:=r;cases a<;>cases b<;>cases c<;>simp[ltB]at h1 h2 ⊢
 ·exact m5 h1 h2
 ·exact m5 h1 h2
theorem m6{p q r:KB}(h:ltB p r=true):ltB p q=true∨ltB q r=true:=by
 obtain⟨a,x⟩:=p;obtain⟨b,y⟩:=q;obtain⟨c,z⟩:=r;cases a<;>cases b<;>cases c<;>simp[ltB]at h ⊢
 ·exact vT h
 ·exact vT h
noncomputable def KH(h:Heap)(u:Value)(p:KB):Prop:=∃a t,u=.ref a/\h.IsTuple a #[.bool p.1,.str p.2 t]
section
variable {prog:Program}{w:World}{A:Around}{E:Value->Shared->Prop}{s:Shared}
theorem Ez(a b:Bool):decide (b2i a<b2i b)=(!a&&b):=by cases a<;>cases b<;>rfl
theorem zv{a b:Bool}(fl:Bool):pQ A s fl (.bool a) (.bool b) (!a&&b):=fun prog w E Q q=>by
 rw[← Ez]at q;cases fl with
 | true =>
  rw[oneLt'_eq];simp only[if_true];refine wpAny_bind (wpAny_cRoomFor_byValue rfl ?_);refine wpAny_bind (wpAny_callSpecialIfBound?_slot (typeIs_bool' s a) PySem.F.slot_bool_lt (call_gives PySem.F.slot_bool_lt (typeIs_bool' s a) PySem.F.entry_int_lt (PySem.F.args_int_lt_2 _ _) (gives_int_lt_bools a b) ?_));exact wpAny_truthy_bool q
 | false=>exact vJ (fun prog w E Q h=>(lt_bool h:wpAny (model prog w) A (compareOp .Lt (.bool a) (.bool b)) Q E s)) prog w E Q q
noncomputable def BF:D->D->Bool
 | .bl a,.bl b=>!a&&b
 | .str x,.str y=>ltS x y
 | _,_=>false
theorem EA(p q:KB):ltL BF [.bl p.1,.str p.2] [.bl q.1,.str q.2]=ltB p q:=by
 obtain⟨a,x⟩:=p;obtain⟨b,y⟩:=q;by_cases e:a=b
 ·subst e;rw[bX];by_cases e2:x=y
  ·subst e2;rw[bX,jp];rfl
  ·rw[bm (by intro z;injection z with z;exact e2 z)]
   unfold ltB;cases a<;>simp[BF]
 ·rw[bm (by intro z;injection z with z;exact e z)]
  unfold ltB;cases a<;>cases b<;>first|exact absurd rfl e|simp[BF]
open Classical in
theorem Gk{u v:Value}{p q:KB}{Q:Bool->Shared->Prop}(h1:KH s.heap u p)(h2:KH s.heap v q)(hq:Q (ltB p q) s):wpAny (model prog w) A (keyLt' (tuples' true) u v) Q E s:=by
 obtain⟨a,t,rfl,ha⟩:=h1;obtain⟨b,t',rfl,hb⟩:=h2;have e1:EqAt A s (.bool p.1) (.bool q.1) (decide (D.bl p.1=D.bl q.1)):=by
  have:decide (D.bl p.1=D.bl q.1)=(p.1 == q.1):=by rw[Qf];simp
  rw[this];exact EqAt.bool_bool _ _
 have e2:EqAt A s (.str p.2 t) (.str q.2 t') (decide (D.str p.2=D.str q.2)):=by
  have:decide (D.str p.2=D.str q.2)=(p.2 == q.2):=by rw[Qf];simp
  rw[this];exact EqAt.str_str _ _ _ _
 refine vL (lt:=BF) (ds:=[.bl p.1,.str p.2]) (es:=[.bl q.1,.str q.2]) ha hb ?_ (by rw[EA];exact hq)
 exact .cons e1 (fun _=>zv _) (.cons e2 (fun _=>qI _) (.left rfl))
noncomputable def cB(ks:List KB)(g h:Nat):Bool:=ltB (ks.getD g (false,Str.empty)) (ks.getD h (false,Str.empty))
theorem GU{us vs:List Value}{ks:List KB}(hl:us.length=ks.length)(r:∀(i:Nat) u p,us[i]?=some u->ks[i]?=some p->KH s.heap u p) :
  Cm prog w A s (tuples' true) (fun g=>(us.getD g .none,vs.getD g .none)) us.length (cB ks):=by
 refine⟨fun E Q g h hg hh q=>?_,fun g=>jp _,fun g h i h1 h2=>kQ h1 h2,fun g h i h1=>m6 h1⟩;have eg:us[g]?=some us[g]:=Za hg;have eh:us[h]?=some us[h]:=Za hh;have kg:ks[g]?=some ks[g]:=Za (by lia)
 have kh:ks[h]?=some ks[h]:=Za (by lia)
 have q':Q (ltB ks[g] ks[h]) s:=by
  unfold cB at q;rw[Qa,Qa,kg,kh]at q;exact q
 show wpAny (model prog w) A (keyLt' (tuples' true) (us.getD g .none) (us.getD h .none)) Q E s;rw[Qa,Qa,eg,eh];exact Gk (r g _ _ eg kg) (r h _ _ eh kh) q'
theorem GV{us:List Value}{ks:List KB}(hne:us≠[])(hl:us.length=ks.length)(r:∀(i:Nat) u p,us[i]?=some u->ks[i]?=some p->KH s.heap u p){M:Model}{Q:SortKind->Shared->Prop}(q:Q (tuples' true) s):wpAny M A (keyKind' us.toArray) Q E s:=by
 rw[keyKind'_eq];have hf:∀(us:List Value)(ks:List KB),us.length=ks.length->(∀(i:Nat) u p,us[i]?=some u->ks[i]?=some p->KH s.heap u p)->∀Q:List (Option Value)->Shared->Prop,Q (ks.map fun p=>some (.bool p.1)) s->wpAny M A (us.mapM firstOfTuple') Q E s:=fun us=>by
  induction us with
  | nil =>
   intro ks hl _ Q q;obtain rfl:ks=[]:=Zf hl.symm;rw[List.mapM_nil];exact wpAny_pure q
  | cons u us ih =>
   intro ks hl r Q q;cases ks with
   | nil=>simp at hl
   | cons p ks =>
    rw[List.mapM_cons];obtain⟨a,t,rfl,ht⟩:=r 0 u p rfl rfl;exact wpAny_bind (pR (its:=[.bool p.1,.str p.2 t]) ht rfl (wpAny_bind (ih ks (by simpa using hl) (fun i u p e1 e2=>r (i+1) u p (by simpa using e1) (by simpa using e2)) _ (wpAny_pure q))))
 rw[List.mapM_toArray,map_eq_pure_bind];refine wpAny_bind (wpAny_bind (hf us ks hl r _ (wpAny_pure ?_)));have hnk:ks≠[]:=fun z=>by
  rw[z]at hl;exact hne (Zf hl)
 rw[if_pos (by simp)]
 refine wpAny_bind (wpAny_rule ?_);have e1:(ks.map fun p=>some (Value.bool p.1)).toArray.filterMap id=(ks.map fun p=>Value.bool p.1).toArray:=by
  rw[show(ks.map fun p=>some (Value.bool p.1))=(ks.map fun p=>Value.bool p.1).map some by rw[Xg];rfl]
  simp
 rw[e1,oneTypeOnly'_eq];refine wpAny_bind (wpAny_bind (qJ (g:=fun _=>Value.type "bool") (fun v hv Q q=>?_) ?_))
 ·obtain⟨p,_,rfl⟩:=Qc.mp hv;exact wpAny_typeOf (typeIs_bool' s p.1) q
 ·cases ks with
  | nil=>exact absurd rfl hnk
  | cons p ks =>
   have h0:(List.map (fun _=>Value.type "bool") (List.map (fun p:KB=>Value.bool p.1) (p::ks))).toArray[0]?=some (Value.type "bool"):=by simp
   rw[h0];have hall:((List.map (fun _=>Value.type "bool") (List.map (fun p:KB=>Value.bool p.1) (p::ks))).toArray.all fun x=>x == Value.type "bool")=true:=by
    simp only[List.all_toArray,List.all_map,Ql];intro _ _;exact beq_self_eq_true _
   dsimp only;rw[hall,if_pos rfl];exact wpAny_pure (wpAny_pure q)
end
end VF
namespace VF
open PySem L2 PyProof.Rows TS
section
variable {prog:Program}{w:World}{A:Around}{E:Value->Shared->Prop}{s:Shared}
theorem n5{a kS:Addr}{vs:List Value}{ks:List KB}{kA:Array Value}{e e1:Nat}{st:SortSt}{γ:Array Nat}{P:Fin->Shared->Prop}(hka:kS≠a)
  (g1:s.heap.get? kS=some (seqObj "list" kA e))(g2:s.heap.get? a=some (seqObj "list" #[] e1))(hz:vs.length<=sizeLine)(hk:kA.size=vs.length)
  (hf:failedOf st=none) (ha:(arrOf st).map (·.2)=bL vs γ) (hp:γ.Perm (Array.range vs.length))
  (fin:∀tk,P (.done (.ret .none)) { s with heap:=(s.heap.update kS (Obj.mapSeq fun _=>#[])).update a (Obj.mapSeq fun _=>bL vs γ),toks:=tk }) :
  wpAny (model prog w) A (ksk_tail a false e1 (.ref kS) st) P E s:=by
 have s1:=Heap.SameBut.update s.heap kS (Obj.mapSeq fun _=>(#[]:Array Value));have na1:(s.heap.update kS (Obj.mapSeq fun _=>(#[]:Array Value))).get? a=some (seqObj "list" #[] e1):=(s1.2 a hka.symm).trans g2;have hsz:(bL vs γ).size=vs.length:=by
  unfold bL;rw[Zn,hp.size_eq,Qj]
 unfold ksk_tail;dsimp only;refine wpAny_bind (listUpdate_at g1 rfl ?_ (by rw[hk];lia) (Wh _))
 refine wpAny_bind (wpAny_letGo ?_);refine wpAny_bind (seqEpoch_at na1 rfl ?_)
 refine wpAny_bind (listUpdate_at na1 rfl ?_ (Wh _) (by
  show(if false=true then((arrOf st).map (·.2)).reverse else(arrOf st).map (·.2)).size<=_
  rw[if_neg Bool.noConfusion,ha,hsz];lia))
 rw[hf];simp only[bne_self_eq_false,Qe,if_false];rw[ha];exact wpAny_pure (fin _)
theorem w6{a kS : Addr}{vs : List Value}{ks : List KB}{kA : Array Value}{e e1 : Nat}{P : Fin → Shared → Prop}(hka : kS ≠ a)
    (g1 : s.heap.get? kS = some (seqObj "list" kA e))(g2 : s.heap.get? a = some (seqObj "list" #[] e1))(hz : vs.length ≤ sizeLine)(hk : kA.size = vs.length)(hl : ks.length = vs.length)
    (r : ∀ (i : Nat) u p, kA[i]? = some u → ks[i]? = some p → KH s.heap u p)
    (fin : ∀ (γ : Array Nat) tk, γ.Perm (Array.range vs.length) → Sg (cB ks) γ 0 vs.length → P (.done (.ret .none)) { s with heap := (s.heap.update kS (Obj.mapSeq fun _ => #[])).update a (Obj.mapSeq fun _ => bL vs γ), toks := tk }) :
    wpAny (model prog w) A (ksk_end a false vs.toArray e1 (.ref kS) kA) P E s := by
  obtain ⟨us, rfl⟩ : ∃ us : List Value, kA = us.toArray := ⟨kA.toList, by simp⟩
  rw [List.size_toArray] at hk;have r' : ∀ (i : Nat) u p, us[i]? = some u → ks[i]? = some p → KH s.heap u p := fun i u p e1 e2 => r i u p (by simpa using e1) e2
  have e0 : us.toArray.zip vs.toArray = (Array.range vs.length).map fun g => (us.getD g .none, vs.getD g .none) := by
    apply Array.ext_getElem?
    intro i;rw [Array.getElem?_map, Array.getElem?_range];by_cases hi : i < vs.length
    · rw [if_pos hi]
      have hi' : i < us.length := by lia
      simp [hi, hi'];rw [List.getElem?_zip_eq_some];exact ⟨List.getElem?_eq_getElem hi', List.getElem?_eq_getElem hi⟩
    · rw [if_neg hi]
      simp [hi];lia
  unfold ksk_end;dsimp only;simp only [Bool.false_eq_true, if_false];by_cases few : vs.toArray.size < 2
  · rw [if_pos few, if_pos few]
    refine wpAny_bind (wpAny_pure ?_);rw [StateT.run_pure];refine wpAny_bind (wpAny_pure ?_);dsimp only;rw [List.size_toArray] at few;refine n5 (ks := ks) (γ := Array.range vs.length) hka g1 g2 hz (by simpa using hk) rfl ?_ (Array.Perm.refl _) fun tk => fin _ tk (Array.Perm.refl _) fun i j g h z1 z2 z3 => by lia
    show (us.toArray.zip vs.toArray).map (·.2) = _;rw [e0, Array.map_map]; rfl
  · rw [if_neg few, if_neg few]
    rw [List.size_toArray] at few;have hne : us ≠ [] := fun z => few (by rw [z] at hk; simp at hk; lia)
    refine wpAny_bind (GV hne (by lia) r' ?_)
    have C : Cm prog w A s (tuples' true) (fun g => (us.getD g .none, vs.getD g .none)) us.length (cB ks) := GU (by lia) r'
    rw [hk] at C
    refine wpAny_bind (wpAny_mono (vE (st := SortSt.mk' (tuples' true) (us.toArray.zip vs.toArray) #[] 7 none) C (γ := Array.range vs.length) ⟨e0, rfl, rfl, Array.Perm.refl _⟩ rfl (fun i _ z => by rw [Array.getElem?_range, if_pos z])
      (Q := fun _ st' => ∃ γ, Rp (tuples' true) (fun g => (us.getD g .none, vs.getD g .none)) vs.length st' γ ∧ Sg (cB ks) γ 0 vs.length) fun st' γ' R g => ⟨γ', R, g⟩) ?_ fun _ _ e => e)
    rintro ⟨⟨⟩, st'⟩ s' ⟨rfl, γ, R, g⟩;dsimp only;refine n5 (ks := ks) (γ := γ) hka g1 g2 hz (by simpa using hk) R.fine ?_ R.perm fun tk => fin γ tk R.perm g
    rw [R.arr, Array.map_map]; rfl
theorem um{a kS:Addr}{f:Value}{vs:List Value}{ks:List KB}{e1:Nat}{P:Fin->Shared->Prop}(hka:kS≠a)(hz:vs.length<=sizeLine)(hl:ks.length=vs.length)(J:Nat->Array Value->Shared->Prop)
  (hJ:∀i kA s',J i kA s'->(∃e,s'.heap.get? kS=some (seqObj "list" kA e))/\s'.heap.get? a=some (seqObj "list" #[] e1)/\kA.size=i)
  (turn:∀i kA v s',vs[i]?=some v->J i kA s'->wpAny (model prog w) A (call f [v]) (fun u s''=>(∃e,s''.heap.get? kS=some (seqObj "list" kA e))/\J (i+1) (kA.push u) { s'' with heap:=s''.heap.update kS (Obj.mapSeq (·.push u)) }) (fun _ _=>False) s')
  (keys:∀kA s',J vs.length kA s'->∀(i:Nat) u p,kA[i]?=some u->ks[i]?=some p->KH s'.heap u p)
  (fin:∀kA s' (γ:Array Nat) tk,J vs.length kA s'->γ.Perm (Array.range vs.length)->Sg (cB ks) γ 0 vs.length->P (.done (.ret .none)) { s' with heap:=(s'.heap.update kS (Obj.mapSeq fun _=>#[])).update a (Obj.mapSeq fun _=>bL vs γ),toks:=tk })
  (h0:J 0 #[] s):wpAny (model prog w) A (ksk_rest a f false vs.toArray e1 (.ref kS)) P E s:=by
 unfold ksk_rest;refine wpAny_bind (wpAny_rule ?_)
 first
  | rw[List.forIn_toArray]
  | (rw[← Array.forIn_toList];simp only[List.toList_toArray])
  | rw[← Array.forIn_toList]
 refine wpAny_bind (ksk_fold (fun i s'=>∃kA,J i kA s') vs 0 s ⟨#[],h0⟩ ?step ?done)
 case step =>
  rintro j x s' hx ⟨kA,hj⟩;rw[Nat.zero_add]at hj ⊢;have hjl:j<vs.length:=(Yb.mp hx).1;obtain⟨_,_,hks⟩:=hJ _ _ _ hj;refine wpAny_bind (wpAny_attempt (wpAny_mono (turn j kA x s' hx hj) (fun u s'' he=>?_) fun _ _ hF=>hF.elim));obtain⟨⟨e,g1⟩,hj'⟩:=he;dsimp only;refine wpAny_bind (listUpdate_at g1 rfl ?_ (by lia) (Xe (Nat.le_of_eq (Array.size_push ..)) (by lia)))
  exact wpAny_pure ⟨rfl,kA.push u,hj'⟩
 case done =>
  rintro s' ⟨kA,hj⟩;rw[Nat.zero_add]at hj;obtain⟨⟨e,g1⟩,g2,hks⟩:=hJ _ _ _ hj;refine wpAny_bind (listItems_at g1 rfl ?_);exact w6 hka g1 g2 hz hks hl (keys kA s' hj) fun γ tk p g=>fin kA s' γ tk hj p g
end
end VF
namespace VF
open PySem L2 PyProof.Rows TS
section
variable {X:Cx}{K:PySem.W.Frag}{pins:List (Addr×Obj)}{σ:L2.St}{H:Hp}{s:Shared}
theorem Gm{H0:Hp}{kS a:Addr}{oa ok ok':Obj}{φ:Obj->Obj}{t:Nat}(I:L2.Inv X (pins++[(kS,ok),(a,oa)]) σ H s)(fk:iz X pins H0 kS)(hka:kS≠a)(hg:(s.heap.update kS φ).get? kS=some ok')(hc:∀v,ok'.data≠.cell v) :
  L2.Inv X (pins++[(kS,ok'),(a,oa)]) σ H { s with heap:=s.heap.update kS φ,toks:=t }:=by
 obtain⟨_,f1,f2,f3,f4,f5⟩:=fk;have pk:=I.pin (kS,ok) (by simp)
 have pa:=I.pin (a,oa) (by simp)
 have old:∀p∈pins,s.heap.get? p.1=some p.2/\H p.1=none/\p.1≠X.env.locals/\p.1∉X.fs/\∀v,p.2.data≠.cell v:=fun p hp=>I.pin p (Wd _ (Vi _ hp));have I1:L2.Inv X (pins++[(a,oa)]) σ H s:=I.pins_of fun p hp=>by
  rcases Xc.mp hp with z|z
  ·exact old p z
  ·rw[Wb.mp z];exact pa
 have I2:=I1.turned (t':=t) (it:=kS) (h':=s.heap.update kS φ) (fun b o hb e=>(Heap.get?_update_ne _ _ _ _ hb).trans e) pk.2.1 f1 f3 f4 fun p hp=>by
  rcases Xc.mp hp with z|z
  ·exact f5 p (Vi _ z)
  ·rcases Xc.mp z with z|z
   ·exact f5 p (Wd _ z)
   ·rw[Wb.mp z];exact hka.symm
 refine I2.pins_of fun p hp=>?_;rcases Xc.mp hp with z|z
 ·exact I2.pin p (Wd _ (Vi _ z))
 ·rcases Ze.mp z with rfl|z
  ·exact⟨hg,pk.2.1,f1,f2,hc⟩
  ·rw[Wb.mp z];exact I2.pin (a,oa) (by simp)
theorem tracked{H0:Hp}{kS a:Addr}{oa ok:Obj}{h':Heap}{ws:List V}{t:Nat}(I:L2.Inv X (pins++[(kS,ok),(a,oa)]) σ H s)(fk:iz X pins H0 kS)(fa:iz X pins H0 a)
  (k:∀b o,b≠kS->b≠a->s.heap.get? b=some o->h'.get? b=some o)(new:ObjOk X.prog X.w (upd H a (.lst ws)) h' a (.lst ws)) :
  L2.Inv X pins σ (upd H a (.lst ws)) { s with heap:=h',toks:=t }:=by
 obtain⟨_,f1,f2,f3,f4,f5⟩:=fk;obtain⟨_,g1,g2,g3,g4,g5⟩:=fa;have pk:=I.pin (kS,ok) (by simp)
 have pa:=I.pin (a,oa) (by simp)
 have I1:L2.Inv X pins σ H s:=I.pins_of fun p hp=>I.pin p (Wd _ (Vi _ hp));have nk:H kS=none:=pk.2.1;have na:H a=none:=pa.2.1;have ne:∀b u,H b=some u->b≠a:=fun b u e z=>by rw[z,na]at e;cases e
 have nek:∀b u,H b=some u->b≠kS:=fun b u e z=>by rw[z,nk]at e;cases e
 have two:∀b,b∉[kS,a]->b≠kS/\b≠a:=fun b hb=>⟨fun z=>hb (by simp[z]),fun z=>hb (by simp[z])⟩
 refine I1.step (g':=s.gens) (d':=s.drawn) (ch:=[kS,a]) (fun b hb=>?_) (fun b o _ _ hc e _=>k b o (two b hc).1 (two b hc).2 e) (fun b o _ _ hc e _=>⟨o.slots,k b o (two b hc).1 (two b hc).2 e⟩) (fun b o hc _ n=>by rw[aT (two b hc).2];exact n)
  (fun b o hc e=>⟨o,k b o (two b hc).1 (two b hc).2 e⟩) (fun b xs e=>by rw[aT (ne b _ e)];exact e) (fun b o u e=>by rw[aT (ne b _ e)];exact e) (fun b ps e=>⟨#[],by rw[aT (ne b _ e),e];simp⟩) (fun m hm=>?_) (fun b u e=>?_) I1.bare
 ·rcases Ze.mp hb with rfl|hb
  ·exact⟨f3,f1,f4,f5⟩
  ·obtain rfl:=Wb.mp hb;exact⟨g3,g1,g4,g5⟩
 ·obtain⟨o,es,ep,ho,r⟩:=hm;exact⟨o,es,ep,k _ o (Ne.symm f1) (Ne.symm g1) ho,r⟩
 ·by_cases hb:b=a
  ·subst hb;rw[br]at e;cases e;exact new
  ·rw[aT hb]at e;refine(I1.hok b u e).stay (fun c v hc q=>?_) (fun c q=>by rw[aT (ne c _ q)];exact q) fun c xs q=>by rw[aT (ne c _ q)];exact q
   rcases hc with z|z
   ·rw[z]at q ⊢;exact k b v (nek b u e) hb q
   ·exact k c v (nek c _ z) (ne c _ z) q
noncomputable def keyD(p:KB):D:=.tup [.bl p.1,.str p.2]
theorem Gn{Z:AS}{v:V}{u:Value}{p:KB}(h:X.K=K)(I:L2.Inv X pins σ H s)(da:DA K Z H v (keyD p))(ru:RelV v u):KH s.heap u p:=by
 obtain⟨a,xs,rfl,sq,el⟩:=(show BA K Z H v (.tup [.bl p.1,.str p.2]) from da.ba);cases ru;obtain⟨its,r,t,_⟩:=I.tuple (h ▸ sq.sq);obtain⟨v1,r1,rfl,d1,el⟩:=el.uncons;obtain⟨v2,r2,rfl,d2,el⟩:=el.uncons;obtain rfl:=el.unnil;obtain rfl:v1=V.bl p.1:=d1.ba;obtain rfl:v2=V.str p.2:=d2.ba;cases r with
 | cons a1 r =>
  cases r with
  | cons a2 r =>
   cases r;obtain rfl:=(show _=Value.bool p.1 from a1);obtain⟨tt,rfl⟩:=(show ∃t,_=Value.str p.2 t from a2);exact⟨a,tt,rfl,t⟩
inductive SJ(X:Cx)(K:PySem.W.Frag)(pins:List (Addr×Obj))(σ:L2.St)(H:Hp)(a:Addr)(e1:Nat)(ks:List KB)(Z:AS)(i:Nat)(kA:Array Value)(s':Shared):Prop
 | mk (Hi:Hp) (e:Nat) (kvs:List V) (I:L2.Inv X (pins++[(a+2,seqObj "list" kA e),(a,seqObj "list" #[] e1)]) σ Hi s') (sm:Same H Hi) (hsz:kA.size=i) (rk:Vals kvs kA.toList) (hd:∀(j:Nat) v p,kvs[j]?=some v->ks[j]?=some p->DA K Z Hi v (keyD p))
theorem Gp{X:Cx}{pins:List (Addr×Obj)}{σ:L2.St}{Hi:Hp}{s':Shared}{p q:Addr×Obj}(I:L2.Inv X (pins++[p,q]) σ Hi s'):s'.heap.get? p.1=some p.2:=(I.pin p (Wd _ (Wd _ (.head _)))).1
theorem Gq{X:Cx}{pins:List (Addr×Obj)}{σ:L2.St}{Hi:Hp}{s':Shared}{p q:Addr×Obj}(I:L2.Inv X (pins++[p,q]) σ Hi s'):s'.heap.get? q.1=some q.2/\Hi q.1=none:=by
 have:=I.pin q (Wd _ (Wd _ (.tail _ (.head _))));exact⟨this.1,this.2.1⟩
theorem uo{k:Nat}{f l:Addr}{fd:FuncData}{x:Str}{g:List D->Option Rz}{Q:VK}(h:X.K=K)(F:FnOk X.prog X.w X.K X.mg X.base CX0 k f fd [x] (spV K g))(hr:Room (k+2) X.A)(hb:Binds X.K fd [x] [])
  (I:L2.Inv X pins σ H s){Z:AS}{vs:List V}{ds:List D}{ks:List KB}(sq:SqL K H l vs)(el:El K Z H vs ds)(lv:∀p,Z p->Lv H p)(hk:ks.length=ds.length)(hg:∀(i:Nat) d p,ds[i]?=some d->ks[i]?=some p->g [d]=some (keyD p,false))
  (q:∀(γ:Array Nat)(H':Hp)(p:Addr)(ws:List V),γ.Perm (Array.range ds.length)->Sg (cB ks) γ 0 ds.length->Same H H'->H' p=none->El K Z H' ws (γ.toList.map (dk ds))->Q (.ref p) (upd H' p (.lst ws))) :
  wpAny (model X.prog X.w) X.A (call (.builtin "sorted") [.ref l] [(Str.ofString "key",.ref f)]) (EP X pins σ Q) X.xe s:=by
 obtain⟨its,r,pl,hz⟩:=I.list (h ▸ sq);have hn:its.length=ds.length:=r.length.symm.trans el.1;have hz':its.length<=sizeLine:=by rw[← r.length];exact hz
 refine call_function_entry_kw kind_sorted plain_sorted entry_sorted (ksk_s1 _ _) ?_;unfold Builtin.«sorted»;refine wpAny_bind (m:=checkCount "sorted" 1 1 _) (wpAny_pure ?_);refine wpAny_bind (collect_list pl.isList ?_ hz');refine wpAny_bind (wpAny_newList ?_ hz');generalize hg1:(s.heap.push (seqObj "list" #[] 0)).update s.heap.objs.size (Obj.mapSeq (·++its.toArray))=h1;have z1:h1.objs.size=s.heap.objs.size+1:=by rw[← hg1,Heap.size_update,size_push']
 have old1:∀b o,s.heap.get? b=some o->h1.get? b=some o:=fun b o e=>by
  rw[← hg1];exact(Heap.get?_update_ne _ _ _ _ (Zg (Heap.lt_size e))).trans (Heap.get?_push_of_some _ e)
 generalize ha:s.heap.objs.size+1=a at z1;have mine:(h1.push (seqObj "list" its.toArray 0)).get? a=some (seqObj "list" its.toArray 0):=by rw[← z1];exact Heap.get?_push_size _ rfl
 show wpAny _ _ _ _ _ { s with heap:=h1.push (seqObj "list" its.toArray 0) };rw[z1];refine wpAny_bind (wpAny_holding (wpAny_call_entry_kw slot_list_sort ⟨_,mine,rfl⟩ entry_list_sort ?body (ksk_l1 _ _)));show wpAny (model X.prog X.w) X.A.in1.in1 (Builtin.«list.sort» ⟨[.ref a],[(Str.ofString "key",.ref f)]⟩) _ _ _;rw[ksk_t1];generalize hh2:h1.push (seqObj "list" its.toArray 0)=h2 at mine;have z2:h2.objs.size=a+1:=by rw[← hh2,size_push',z1]
 have old2:∀b o,s.heap.get? b=some o->h2.get? b=some o:=fun b o e=>by rw[← hh2];exact Heap.get?_push_of_some _ (old1 b o e)
 unfold ksk_tree;refine wpAny_bind (listItems_at mine rfl ?_);refine wpAny_bind (listUpdate_at mine rfl ?_ (by rw[Vb];lia) (Wh _))
 obtain⟨e1,hE⟩:∃e1,(h2.update a (Obj.mapSeq fun _=>#[])).get? a=some (seqObj "list" #[] e1):=⟨_,get?_update_seq mine (fun _=>#[])⟩;refine wpAny_bind (seqEpoch_at hE rfl ?_);refine wpAny_bind (wpAny_newTuple ?_ (by show its.length<=_;lia))
 refine wpAny_bind (wpAny_newList ?_ (Wh _));refine wpAny_holding ?_;have hT:((h2.update a (Obj.mapSeq fun _=>#[])).push (seqObj "tuple" its.toArray 0)).objs.size=a+2:=by rw[size_push',Heap.size_update,z2]
 generalize hh3:((h2.update a (Obj.mapSeq fun _=>#[])).push (seqObj "tuple" its.toArray 0)).push (seqObj "list" #[] 0)=h3;have gk:h3.get? (a+2)=some (seqObj "list" #[] 0):=by rw[← hh3,← hT];exact Heap.get?_push_size _ rfl
 have ga:h3.get? a=some (seqObj "list" #[] e1):=by rw[← hh3];exact Heap.get?_push_of_some _ (Heap.get?_push_of_some _ hE)
 have hbig:s.heap.objs.size<=a:=by lia
 have old3:∀b o,s.heap.get? b=some o->h3.get? b=some o:=fun b o e=>by
  rw[← hh3];refine Heap.get?_push_of_some _ (Heap.get?_push_of_some _ ?_);have:=Heap.lt_size e;exact(Heap.get?_update_ne _ _ _ _ (Zg (Zd this hbig))).trans (old2 b o e)
 have hbig2:s.heap.objs.size<=a+2:=Xe hbig (Vj _ _);have fk:iz X pins H (a+2):=I.fpOk hbig2 (I.hok.fresh hbig2);have fa:iz X pins H a:=I.fpOk hbig (I.hok.fresh hbig);have hka:a+2≠a:=by lia
 have I3:L2.Inv X (pins++[(a+2,seqObj "list" #[] 0),(a,seqObj "list" #[] e1)]) σ H { s with heap:=h3 }:=by
  refine(I.kept (t':=s.toks) old3).pins_of fun p hp=>?_;rcases Xc.mp hp with z|z
  ·exact(I.kept (h':=h3) (t':=s.toks) old3).pin p (Wd _ z)
  ·rcases Ze.mp z with rfl|z
   ·exact⟨gk,fk.1,fk.2.1,fk.2.2.1,fun v z=>by cases z⟩
   ·rw[Wb.mp z];exact⟨ga,fa.1,fa.2.1,fa.2.2.1,fun v z=>by cases z⟩
 show wpAny (model X.prog X.w) X.A.in1.in1 (ksk_rest a (.ref f) false its.toArray e1 (.ref (((h2.update a (Obj.mapSeq fun _=>#[])).push (seqObj "tuple" its.toArray 0)).objs.size))) _ _ { s with heap:=h3 };rw[hT];refine um (ks:=ks) hka hz' (by lia) (SJ X K pins σ H a e1 ks Z) ?hJ ?turn ?keys ?fin ⟨H,0,[],I3,Same.refl H,rfl,.nil,fun j v p e=>by simp at e⟩
 case hJ =>
  rintro i kA s' ⟨Hi,e,kvs,Ii,_,hsz,_⟩;exact⟨⟨e,Gp Ii⟩,(Gq Ii).1,hsz⟩
 case keys =>
  rintro kA s' ⟨Hi,e,kvs,Ii,_,hsz,rk,hd⟩ i u p e2 e3;obtain⟨v,e4,rv⟩:=dm rk i u (by simpa using e2)
  exact Gn h Ii (hd i v p e4 e3) rv
 case turn =>
  rintro i kA v s' hv ⟨Hi,e,kvs,Ii,sm,hsz,rk,hd⟩;have hi:i<its.length:=(Yb.mp hv).1;obtain⟨vv,e4,rv⟩:=dm r i v hv;obtain⟨d,e5⟩:∃d,ds[i]?=some d:=⟨_,Za (by lia)⟩
  obtain⟨p,e6⟩:∃p,ks[i]?=some p:=⟨_,Za (by lia)⟩
  have da:DA K Z Hi vv d:=(el.2 i vv d e4 e5).same sm;have hsp:spV K g [vv] Hi (fun v H'=>Same Hi H'/\DA K Z H' v (keyD p)) E0:=⟨Z,[d],(keyD p,false),El.one da,fun b zb=>(lv b zb).same (sm b),hg i d p e5 e6,fun v H' s2 res=>⟨s2,res⟩⟩;refine wpAny_call (codeAny_mono (F.run X.A.in1.in1 X.stack s' Hi ⟨[v],[]⟩ [v] [vv] _ E0 hr.in1.in1 Ii.env0.in1.in1 (hb s' [v] Ii.kIn rfl) (.cons rv .nil) hsp) fun rr s'' hq=>?_);cases rr with
  | error e=>exact hq.elim
  | ok fl =>
   cases fl with
   | next=>exact False.elim hq
   | brk=>exact False.elim hq
   | cont=>exact False.elim hq
   | ret u =>
    obtain⟨nv,Hn,In,ru,sm2,dn⟩:=Ii.after hq;have gk2:s''.heap.get? (a+2)=some (seqObj "list" kA e):=Gp In;refine⟨⟨e,gk2⟩,?_⟩;obtain⟨e',ge⟩:∃e',(s''.heap.update (a+2) (Obj.mapSeq (·.push u))).get? (a+2)=some (seqObj "list" (kA.push u) e'):=⟨_,get?_update_seq gk2 (·.push u)⟩;refine⟨Hn,e',kvs++[nv],Gm (t:=s''.toks) In fk hka ge (fun v z=>by cases z),fun b o eb=>sm2 b o (sm b o eb),by rw[Array.size_push,hsz],?_,fun j v p' e7 e8=>?_⟩
    ·rw[Array.toList_push];exact rk.append (.cons ru .nil)
    ·have hlk:kvs.length=i:=by rw[rk.length,Yc,hsz]
     by_cases hj:j<kvs.length
     ·rw[Yf hj]at e7;exact(hd j v p' e7 e8).same sm2
     ·rw[Ye (by lia)]at e7
      have hj0:j-kvs.length=0:=by
       have:=(Yb.mp e7).1;rw[Qg]at this;lia
      rw[hj0]at e7;have e9:nv=v:=by simpa using e7
      have e10:j=i:=by lia
      subst e9 e10;rw[e6]at e8;cases e8;exact dn
 case fin =>
  rintro kA s' γ tk ⟨Hi,e,kvs,Ii,sm,hsz,rk,hd⟩ p gS;refine⟨_,rfl,wpAny_pure ⟨_,rfl,?_⟩⟩;rw[hn]at p gS;have hγ:∀g∈γ.toList,g<ds.length:=fun g hg=>by
   have:=(Yg.mp p).mem_iff.mp hg;rw[Xm]at this;exact Zm.mp this
  have vw:∀l:List Nat,(∀g∈l,g<ds.length)->Vals (l.map fun g=>vs.getD g .non) (l.map fun g=>its.getD g .none):=fun l=>by
   induction l with
   | nil=>exact fun _=>.nil
   | cons g l ih =>
    intro hl;have hgd:g<ds.length:=hl g Zc;have a1:its[g]?=some its[g]:=Za (by lia)
    obtain⟨v,e3,rv⟩:=dm r g _ a1;refine .cons ?_ (ih fun x hx=>hl x (Xb _ hx));show RelV (vs.getD g .non) (its.getD g .none);rw[Qa,Qa,e3,a1];exact rv
  obtain⟨ga2,na2⟩:=Gq Ii;have s1:=Heap.SameBut.update s'.heap (a+2) (Obj.mapSeq fun _=>(#[]:Array Value));have na1:(s'.heap.update (a+2) (Obj.mapSeq fun _=>(#[]:Array Value))).get? a=some (seqObj "list" #[] e1):=(s1.2 a hka.symm).trans ga2;obtain⟨e2,ge⟩:∃e2,((s'.heap.update (a+2) (Obj.mapSeq fun _=>#[])).update a (Obj.mapSeq fun _=>bL its γ)).get? a=some (seqObj "list" (bL its γ) e2):=⟨_,get?_update_seq na1 (fun _=>bL its γ)⟩;have elw:El K Z Hi (γ.toList.map fun g=>vs.getD g .non) (γ.toList.map (dk ds)):=by
   refine⟨by simp,fun i v d h1 h2=>?_⟩
   rw[Wc]at h1 h2;obtain⟨g1,k1,k2⟩:=Xd.mp h1;obtain⟨g2,k3,k4⟩:=Xd.mp h2;rw[k1]at k3;cases k3;have hgd:g1<ds.length:=hγ g1 (Wa k1);have d1:ds[g1]?=some ds[g1]:=Za hgd;obtain⟨v',e3,da⟩:=el.at d1;rw[lZ d1]at k4;rw[Qa,e3]at k2;subst k4;have:v'=v:=k2;subst this;exact da.same sm
  have hlw:(γ.toList.map fun g=>vs.getD g .non).length<=sizeLine:=by rw[Ya,Yc,p.size_eq,Qj];lia
  refine⟨.ref a,upd Hi a (.lst (γ.toList.map fun g=>vs.getD g .non)),tracked (t:=tk) Ii fk fa (fun b o n1 n2 eb=>(Heap.get?_update_ne _ _ _ _ n2).trans ((Heap.get?_update_ne _ _ _ _ n1).trans eb)) ⟨hlw,(bL its γ).toList,e2,?_,by simpa using ge⟩,rfl,q γ Hi a _ p gS sm na2 elw⟩
  have e3:(bL its γ).toList=γ.toList.map fun g=>its.getD g .none:=by unfold bL;simp
  rw[e3];exact vw _ hγ
end
end VF
namespace VF
open PySem L2 PyProof.Rows TS
section
variable {X:Cx}{K:PySem.W.Frag}
open Classical in
noncomputable def ma(ks:List KB)(ds:List D):List D:=if h:∃γ:Array Nat,γ.Perm (Array.range ds.length)/\Sg (cB ks) γ 0 ds.length then h.choose.toList.map (dk ds) else []
theorem qN{c:Nat->Nat->Bool}{γ:Array Nat}{n:Nat}(hn:γ.size=n)(g:Sg c γ 0 n):γ.toList.Pairwise (Bf c):=by
 rw[Zi];intro i j hi hj hij;rw[Yc]at hi hj;exact g i j γ.toList[i] γ.toList[j] (Wh _) hij (by lia) (by rw[← Wg];exact Za _) (by rw[← Wg];exact Za _)
theorem sQ{ks:List KB}{ds:List D}{γ:Array Nat}(p:γ.Perm (Array.range ds.length))(g:Sg (cB ks) γ 0 ds.length):γ.toList.map (dk ds)=ma ks ds:=by
 have ex:∃γ:Array Nat,γ.Perm (Array.range ds.length)/\Sg (cB ks) γ 0 ds.length:=⟨γ,p,g⟩;have e:ma ks ds=ex.choose.toList.map (dk ds):=by unfold ma;rw[dif_pos ex]
 obtain⟨p2,g2⟩:=ex.choose_spec;rw[e];congr 1;have s1:=qN (by rw[p.size_eq,Qj]) g
 have s2:=qN (by rw[p2.size_eq,Qj]) g2
 refine((Yg.mp p).trans (Yg.mp p2).symm).eq_of_pairwise (fun a b _ _ h1 h2=>?_) s1 s2;have asy:∀x y,cB ks x y=true->cB ks y x=true->False:=fun x y z1 z2=>by
  have:=kQ z1 z2;rw[jp]at this;cases this
 rcases h1 with h1|h1
 ·rcases h2 with h2|h2
  ·exact(asy _ _ h1 h2).elim
  ·rw[h2.1]at h1;cases h1
 ·rcases h2 with h2|h2
  ·rw[h1.1]at h2;cases h2
  ·lia
noncomputable def EB:Option Rz->Option KB
 | some (.tup [.bl b,.str x],false)=>some (b,x)
 | _=>none
theorem BG{z:Option Rz}{p:KB}(h:EB z=some p):z=some (keyD p,false):=by
 unfold EB at h;split at h
 ·cases h;rfl
 ·cases h
noncomputable def keysOf(g:List D->Option Rz):List D->Option (List KB)
 | []=>some []
 | d::ds=>(EB (g [d])).bind fun p=>(keysOf g ds).bind fun ps=>some (p::ps)
theorem pY{g:List D->Option Rz}:∀{ds:List D}{ks:List KB},keysOf g ds=some ks->ks.length=ds.length/\∀(i:Nat) d p,ds[i]?=some d->ks[i]?=some p->g [d]=some (keyD p,false)
 | [],ks,h=>by cases h;exact⟨rfl,fun i d p e=>by simp at e⟩
 | d::ds,ks,h=>by
  refine bsO h fun p e1 h=>?_;refine bsO h fun ps e2 h=>?_;cases h;obtain⟨l,r⟩:=pY e2;refine⟨by rw[Qd,Qd,l],fun i d' p' a b=>?_⟩
  cases i with
  | zero =>
   have a1:d=d':=by simpa using a
   have a2:p=p':=by simpa using b
   subst a1 a2;exact BG e1
  | succ i=>exact r i d' p' (by simpa using a) (by simpa using b)
noncomputable def uq(g:List D->Option Rz):List D->Option Rz
 | [.lst ds]=>(keysOf g ds).bind fun ks=>some (.lst (ma ks ds),true)
 | _=>none
noncomputable def zw(K:PySem.W.Frag)(g:List D->Option Rz):List V->Hp->VK->Prop:=fun xs H Q=>∃(l:Addr)(Z:AS)(vs:List V)(ds:List D)(ks:List KB),xs=[.ref l]/\SqL K H l vs/\El K Z H vs ds/\(∀p,Z p->Lv H p)/\keysOf g ds=some ks /\
 ∀(H':Hp)(p:Addr)(ws:List V),Same H H'->H' p=none->El K Z H' ws (ma ks ds)->Q (.ref p) (upd H' p (.lst ws))
theorem zx{g:List D->Option Rz}:RdCB K (zw K g) (uq g):=by
 intro Y H xs ds z Q lv bs e q;cases bs with
 | nil=>cases e
 | @cons v vs d ds b1 bs =>
  cases bs with
  | cons _ _=>cases d<;>cases e
  | nil =>
   cases d with
   | lst es =>
    refine bsO e fun ks e1 e=>?_;cases e;obtain⟨p,ws,rfl,hp,el⟩:=b1;refine⟨p,Y,ws,es,ks,rfl,.inl (.inl hp),el,lv,e1,fun H' p' ws' sm hn el'=>q _ _ (fun b o eb=>(bj hn _) b o (sm b o eb)) ?_⟩;have hH:H p'=none:=by
     cases e7:H p' with
     | none=>rfl
     | some o=>rw[sm p' o e7]at hn;cases hn
    obtain⟨p2,a1,_,a3⟩:=fR (K:=K) (Y:=Y) el' hn;exact⟨p2,a1,by cases a1;exact hH,a3⟩
   | _=>cases e
theorem zy{x y:Str}{k k':Nat}{g:List D->Option Rz}{e:Expr}{es:List Expr}{t:TA}{p p2 kp pos:Pos}(h:X.K=K)(C:Cal X.prog X.w X.K X.mg X.base x k [y] (spV K g))(hr:Room k' X.A)(hgs:Gl X "sorted")(hms:X.mg "sorted"=none)(hgf:Gl X x)(ha:PA X (e::es) t)(hk:k+2<=k':=by decide)
  (hdb:(x == ("__debug__":Str))=false:=by decide)
  (he:backTo pos (starEach (e::es) X.env)=(false,eval e X.env)::backTo pos (starEach es X.env):=by rfl) (hpl:(backTo pos (starEach (e::es) X.env)).any (·.1)=false:=by rfl) :
  PE X (.Call (.Name "sorted" p) (e::es) [⟨some "key",.Name x p2,kp⟩] pos) (tCB (zw K g) t):=by
 intro pins s σ H Q I hw;obtain⟨f,fd,F,hm,hkp,hb⟩:=C.ex;refine wpAny_Call_Name_kw (jM I hgs hms boot_sorted ?_);refine PyProof.Rows.callWith_kw (thn (ha pos pins s σ H _ I hw) fun us s1 ⟨vs,H1,I1,r1,q1⟩=>?_) he hpl;refine PyProof.Rows.kws_cons (uN I1 hgf hm (PyProof.Rows.kws_nil ?_) hdb);obtain⟨l,Z,ws,ds,ks,rfl,sq,el,lv,hks,q⟩:=q1;obtain⟨u,rfl,ru⟩:=vals1 r1;cases ru;obtain⟨hl,hg⟩:=pY hks;exact uo h F (hr.mono hk) hb I1 sq el lv hl hg fun γ H' p' ws' pm sg sm hn el'=>q H' p' ws' sm hn (by rw[← sQ pm sg];exact el')
end
end VF
namespace VF
open PySem PySem.Spec PyProof.Rows L2
theorem fsc{N P:List Str}{sc:Scope}(h:N.Nodup/\(∀x∈P,sc.names.lookup x=some .local∨sc.names.lookup x=some .cell)/\∀y∈sc.names,y.2≠.free)(a:sc.kind=.function:=by rfl)(b:sc.isCoroutine=false:=by rfl)(c:sc.isGenerator=false:=by rfl)(d:N.take P.length=P:=by rfl):FnScope N P sc:=⟨a,b,c,h.1,d,h.2.1,h.2.2⟩
structure FH(K:PySem.W.Frag)(x:Str)(st:Stmt):Prop where
 ex:∃f fd,Fun K x x st f fd/\PySem.W.nsIn K mainGlobals x=some (some (.ref f))
theorem fh{K:PySem.W.Frag}{x:Str}{st:Stmt}{f:Addr}{oc:Value}{od an:Option Addr}{osl:Array (Option Value)}{kV doc pm cdv ct:Value}(a:PySem.W.nsIn K mainGlobals x=some (some (.ref f)))
  (l:K.lookup f=some ⟨oc,od,.func (PySem.W.fnOf x x (jg st) (fN st) (aB st) .none kV doc pm an cdv ct),osl⟩)(c:PySem.W.codeIn K cdv x=true)(k:PySem.W.keepIn K (.ref f)=true):FH K x st:=⟨f,_,Dx l c k,a⟩
noncomputable def Bn(x:Str)(st:Stmt)(ps:List Str):Prop:=∀(kV doc pm:Value)(an:Option Addr)(cdv ct:Value)(us:List Value),us.length=ps.length->bindArgs (PySem.W.fnOf x x (jg st) (fN st) (aB st) .none kV doc pm an cdv ct) ⟨us,[]⟩=pure (ps.zip us)
theorem arS{n:Nat}{P:List Value->Prop}{us:List Value}(hl:us.length=n+1)(h:∀a r,r.length=n->P (a::r)):P us:=by
 cases us with
 | nil=>cases hl
 | cons a r=>exact h a r (Nat.succ.inj hl)
theorem ar1{P:List Value->Prop}(h:∀a,P [a])(us:List Value)(hl:us.length=1):P us:=arS hl fun a r hr=>by
 rw[Zf hr];exact h a
theorem ar2{P:List Value->Prop}(h:∀a b,P [a,b])(us:List Value)(hl:us.length=2):P us:=arS hl fun a r hr=>ar1 (P:=fun r=>P (a::r)) (h a) r hr
section
variable {P:Program}{w:World}{K:PySem.W.Frag}{mg:Str->Option Value}{base h:Heap}{x:Str}{st:Stmt}{N ps:List Str}{k:Nat}{F:FS}
noncomputable abbrev Bd'(P:Program)(w:World)(K:PySem.W.Frag)(mg:Str->Option Value)(base:Heap)(x:Str)(st:Stmt)(N:List Str)(k:Nat)(F:FS):Prop :=
 ∀{f:Addr}{cdv:Value}{A:Around}{outer:List Env}{s:Shared}{H:Hp}{E:XK},Room k (A.deeper (envOfC x (aB st) s.heap.objs.size f cdv))->∃t,PSs (tR CX0 P w K mg base N x (aB st) f cdv A outer s H E).nox (fN st) t/\RdS K t F
theorem okV{f:Addr}{fd:FuncData}(F':Fun K x x st f fd)(S:FnScope N ps (aB st))(hB:Bd' P w K mg base x st N k F):FnOk P w K mg base CX0 (k+1) f fd ps (spV K (bM F N.length ps.length)):=by
 refine F'.ok S (fun vs H Q E h=>DK h) fun cdv A outer s H vs Q E hr h=>?_;obtain⟨t,h1,h2⟩:=hB hr;exact⟨t,h1,AU h2 h⟩
theorem FH.cal(h':FH K x st)(X:K.In h)(G:h.Ns mainGlobals mg)(S:FnScope N ps (aB st))(hb:Bn x st ps)(hB:Bd' P w K mg base x st N k F):Cal P w K mg base x (k+1) ps (spV K (bM F N.length ps.length)):=by
 obtain⟨f,fd,F',a⟩:=h'.ex;exact⟨f,fd,okV F' S hB,PySem.W.mg_of X G a,F'.kp,F'.binds hb⟩
theorem FH.calI(h':FH K x st)(X:K.In h)(G:h.Ns mainGlobals mg)(S:FnScope N ps (aB st))(hb:Bn x st ps)(hB:Bd' P w K mg base x st N k F):Cal P w K mg base x (k+1) ps (mx K (dD F N.length ps.length)):=by
 obtain⟨f,fd,F',a⟩:=h'.ex;refine⟨f,fd,F'.ok S (fun vs H Q E h=>Fz h) fun cdv A outer s H vs Q E hr h=>?_,PySem.W.mg_of X G a,F'.kp,F'.binds hb⟩;obtain⟨t,h1,h2⟩:=hB hr;exact⟨t,h1,wL h2 h⟩
theorem FH.calR{sp:Nat->Sp}(h':FH K x st)(X:K.In h)(G:h.Ns mainGlobals mg)(hb:Bn x st ps)(m:Nat)(h0:∀f fd,FnOk P w K mg base CX0 0 f fd ps (sp 0))(h1:∀n,n<=m->Cal P w K mg base x n ps (sp n)->∀f fd,Fun K x x st f fd->FnOk P w K mg base CX0 (n+1) f fd ps (sp (n+1))):∀n,n<=m+1->Cal P w K mg base x n ps (sp n):=by
 obtain⟨f,fd,F',a⟩:=h'.ex;intro n;induction n with
 | zero=>exact fun _=>⟨f,fd,h0 f fd,PySem.W.mg_of X G a,F'.kp,F'.binds hb⟩
 | succ n ih=>exact fun hn=>⟨f,fd,h1 n (Nat.le_of_succ_le_succ hn) (ih (Nat.le_of_succ_le hn)) f fd F',PySem.W.mg_of X G a,F'.kp,F'.binds hb⟩
theorem BH{f:Addr}{fd:FuncData}:FnOk P w K mg base CX0 0 f fd ps (spV K (dU 0)):=by
 have no:∀vs H Q E,¬ spV K (dU 0) vs H Q E:=fun vs H Q E h=>by
  obtain⟨Z,ds,z,el,lv,e,q⟩:=h;obtain⟨u,_,hd,_⟩:=pJ e;cases hd
 exact⟨fun vs H Q E h=>absurd h (no vs H Q E),fun A outer s H args us vs Q E _ _ _ _ h=>absurd h (no vs H Q E)⟩
theorem FH.alike{F:(List D->Option Rz)->FS}(h':FH K x st)(X:K.In h)(G:h.Ns mainGlobals mg)(S:FnScope N ps (aB st))(hb:Bn x st ps)(m:Nat)(hv:∀n u,Dp (n+1) u->bM (F (dU n)) N.length ps.length [u,u]=some (.bl true,false))
  (hB:∀n g,n<=m->Cal P w K mg base x n ps (spV K g)->Bd' P w K mg base x st N n (F g)):∀n,n<=m+1->Cal P w K mg base x n ps (spV K (dU n)) :=
 h'.calR X G hb m (fun _ _=>BH) fun n hn c f fd F'=>(okV F' S (hB n _ hn c)).imp fun vs H Q E hs=>by
  obtain⟨Z,ds,z,el,lv,e,q⟩:=hs;obtain⟨u,rfl,hd,rfl⟩:=pJ e;exact⟨Z,[u,u],(.bl true,false),el,lv,hv n u hd,q⟩
theorem FH.law{fa:Addr}(h':FH K "law" st)(X:K.In h)(G:h.Ns mainGlobals mg)(hfa:mg "law"=some (.ref fa))(S:FnScope N ["_law_script"] (aB st))(hb:Bn "law" st ["_law_script"])(lv:∀ns:List Int,bM F N.length 1 [.fl (ns.map D.int)]=some (.bl true,false))
  (hB:∀base:Heap,Bd' P w K mg base "law" st N k F):∃fd:FuncData,(∀(s:Shared)(v:Value),BindsTo s fd ⟨[v],[]⟩ [("_law_script",v)])/\∀base:Heap,K.In base->base.Ns mainGlobals mg->FnOk P w K mg base CX0 (k+1) fa fd ["_law_script"] (vm K):=by
 obtain⟨f,fd,F',a⟩:=h'.ex;have e:=hfa.symm.trans (PySem.W.mg_of X G a);cases e;refine⟨fd,fun s v=>?_,fun base _ _=>(okV F' S (hB base)).imp fun vs H Q E h=>?_⟩
 ·obtain⟨oc,od,kV,doc,pm,an,cdv,ct,osl,rfl,lk,hcd⟩:=F'.ex;exact .of_eq (hb kV doc pm an cdv ct [v] rfl)
 ·obtain⟨a,ns,rfl,sq,_,q⟩:=h;refine⟨fun _=>False,[.fl (ns.map D.int)],(.bl true,false),El.one (.fl (vs:=ns.map V.int) ?_ (by simp) fun i v d h1 h2=>?_),fun p z=>z.elim,lv ns,fun v H' _ r=>?_⟩
  ·rcases sq with s|s
   ·exact .inl ⟨s,fun z=>z⟩
   ·exact .inr fun H'=>.inr s
  ·rw[Wc]at h1 h2;obtain⟨c,e1,rfl⟩:=Xd.mp h1;rw[e1]at h2;obtain rfl:=Option.some.inj h2;exact .int _
  ·obtain rfl:=(show v=V.bl true from DA.ba (show DA K (fun _=>False) H' v (.bl true) from r));exact q H'
end
theorem walkL{l:PySem.W.OpenLaw}{q:Program}{loose:List Str}{XP:(Str->Option Value)->Heap->Prop}{YP:World->Heap->Prop}{d:DefRec}{K:Params->PySem.W.Frag}{k:Nat}(hn:l.most=some 63)(hdf:d.params.defaults=[])(hr:Room k callerA)
  (hY:∀(w:World)(h:Heap),YP w h->(K w.params).In h)
  (F:∀(w:World)(mg:Str->Option Value)(fa:Addr)(h:Heap),(K w.params).In h->h.Ns mainGlobals mg->mg d.name=some (.ref fa) ->
   ∃fd:FuncData,(∀(s:Shared)(u:Value),BindsTo s fd ⟨[u],[]⟩ [("_law_script",u)])/\∀base:Heap,(K w.params).In base->base.Ns mainGlobals mg->FnOk l.prog w (K w.params) mg base CX0 k fa fd ["_law_script"] (vm (K w.params))) :
  PySem.W.WalkO q loose XP YP l.row.toRowW d [] (fun f vs=>PySem.call f vs) :=
 L2.walk_of (n:=63) (k:=k) (x:="_law_script") (CX:=fun _=>CX0) (sp:=fun w=>vm (K w.params)) hn (by decide) hdf hr hY F (fun _ _ a ns hl _ hS=>⟨a,ns,rfl,hS,hl,fun _=>rfl⟩) fun _ _ _ _ _ z=>z
end VF
namespace VL
open PySem L2 VF
noncomputable def Lw(x:Str):Prop:=∀c∈x.cps.toList,97<=c/\c<=122
noncomputable abbrev letS:Str:=Str.ofString "abcdefghijklmnopqrstuvwxyz"
theorem n6:letS.cps.toList=List.range' 97 26:=by decide +kernel
noncomputable def Nm(x:Str):Prop:=1<=x.length/\x.length<=6/\Lw x
theorem zz{ys:List Str}(h:∀y∈ys,∃c,y=⟨#[c]⟩/\97<=c/\c<=122):Lw (Txt.join (Str.ofString "") ys):=by
 intro c hc;have e:Txt.join (Str.ofString "") ys=Str.join (Str.ofString "") ys:=StrLaws.glued_eq_join _ _;rw[e]at hc;rcases(PyProof.Rows.mem_join _ _ _).mp hc with⟨t,ht,hct⟩|⟨_,z⟩
 ·obtain⟨c',rfl,h1⟩:=h t ht;have:c=c':=by simpa using hct
  rw[this];exact h1
 ·have hE:(Str.ofString "").cps.toList=[]:=by decide +kernel
  rw[hE]at z;cases z
theorem join_ones{ys:List Str}(h:∀y∈ys,∃c,y=(⟨#[c]⟩:Str)):(Txt.join (Str.ofString "") ys).length=ys.length :=
 PySem.W.KT.join_ones ys fun a ha=>by obtain⟨c,rfl⟩:=h a ha;rfl
theorem zF{ys:List Str}(h:∀y∈ys,∃c,y=(⟨#[c]⟩:Str)):(ys.map (·.length)).sum=ys.length:=by
 induction ys with
 | nil=>rfl
 | cons y r ih =>
  obtain⟨c,rfl⟩:=h y Zc;rw[Xf,List.sum_cons,ih fun z hz=>h z (Xb _ hz)];show 1+r.length=r.length+1;lia
theorem Lw.app{x y:Str}(a:Lw x)(b:Lw y):Lw (x++y):=fun c hc=>by
 rw[Str.cps_append,Array.toList_append]at hc;rcases Xc.mp hc with z|z
 ·exact a c z
 ·exact b c z
theorem zG:Lw (Str.ofString ""):=fun c hc=>by
 have hE:(Str.ofString "").cps.toList=[]:=by decide +kernel
 rw[hE]at hc;cases hc
noncomputable def word(s:Nat):Str:=Txt.mul ⟨#[97+s % 26]⟩ (1+((s:Nat):Int) / 26)
theorem jq(s:Nat):(word s).cps.toList=List.replicate (1+s / 26) (97+s % 26):=by
 unfold word;rw[PyProof.Rows.mul_one_list];have e:(1+((s:Nat):Int) / 26).toNat=1+s / 26:=by lia
 rw[e]
theorem sR(s:Nat):(word s).length=1+s / 26:=by
 have:=congrArg List.length (jq s);rw[Xh,Yc]at this;exact this
theorem zH{a b:Nat}(h:word a=word b):a=b:=by
 have h1:(word a).cps.toList=(word b).cps.toList:=by rw[h]
 rw[jq,jq]at h1;have h2:=congrArg List.length h1;rw[Xh,Xh]at h2;have h3:=congrArg (fun l=>l[0]?) h1;simp only[Xj]at h3;rw[if_pos (by lia),if_pos (by lia)]at h3
 have h4:=Option.some.inj h3;lia
theorem BI{s:Nat}(h:s<=120):Nm (word s):=by
 refine⟨by rw[sR];lia,by rw[sR];lia,fun c hc=>?_⟩
 rw[jq]at hc;have:=List.eq_of_mem_replicate hc;lia
theorem w9{xs:List Str}{s:Nat}(h:∀j,j<s->word j∈xs):s<=xs.length:=by
 have:=kH ((List.range s).map word) xs (by
  show List.Pairwise _ _;rw[List.pairwise_map];exact List.nodup_range.imp fun hne e=>hne (zH e)) (fun x hx=>by
  obtain⟨j,hj,rfl⟩:=Qc.mp hx
  exact h j (Zm.mp hj))
 rw[Ya,List.length_range]at this;exact this
theorem EC(s:Nat):atI letS.cps.toList (((s:Nat):Int) % 26)=some (97+s % 26):=by
 have e:((s:Nat):Int) % 26=(((s % 26:Nat)):Int):=by lia
 rw[e];refine jf ?_;rw[n6,List.getElem?_range' (by lia)]
 congr 1;lia
theorem n8{α:Type}:∀{l:List α}{i:Nat}(h:i<l.length),(l[i]::l.eraseIdx i).Perm l
 | _::_,0,_=>List.Perm.refl _
 | x::r,i+1,h=>(List.Perm.swap x _ _).trans (List.Perm.cons x (n8 (l:=r) (i:=i) (Nat.lt_of_succ_lt_succ h)))
noncomputable abbrev minus:Str:=Str.ofString "-"
noncomputable def bd(p:Bool×Str):Str:=if p.1 then minus++p.2 else p.2
theorem eE:minus.cps.toList=[45]:=by decide +kernel
theorem ut{p:Bool×Str}(h:Nm p.2):1<=(bd p).length/\(bd p).length<=7:=by
 have e:minus.length=1:=by decide +kernel
 unfold bd;split
 ·rw[Str.length_append,e];have:=h.1;have:=h.2.1;lia
 ·have:=h.1;have:=h.2.1;lia
theorem vU{x y:Str}(h:x.cps.toList=y.cps.toList):x=y:=by
 cases x;cases y;have:_=_:=Array.toList_inj.mp h;exact congrArg Str.mk this
theorem zJ{n:Str}:Txt.slice (minus++n) (some 1) none=n:=by
 have e:minus.length=1:=by decide +kernel
 rw[PyProof.Rows.slice_from_eq (i:=1) (b:=((minus++n).length:Int)) (by decide) (by rw[Str.length_append,e];lia) rfl]
 refine vU ?_;show((List.drop 1 (minus++n).cps.toList).take _).toArray.toList=_;rw[Str.cps_append,Array.toList_append,eE,Str.length_append,e];show List.take _ n.cps.toList=_;refine Vl ?_;rw[Yc];show n.length<=_;lia
theorem zK{p:Bool×Str}(h:Nm p.2):∃c,atI (bd p).cps.toList 0=some c/\(V.str ⟨#[c]⟩=V.str minus↔p.1=true):=by
 obtain⟨t,n⟩:=p;have em:(⟨#[45]⟩:Str)=minus:=by decide +kernel
 cases t with
 | true =>
  refine⟨45,?_,fun _=>rfl,fun _=>by rw[em]⟩
  show atI (minus++n).cps.toList 0=_;rw[Str.cps_append,Array.toList_append,eE];exact Fu
 | false =>
  have h1:1<=n.length:=h.1;cases e:n.cps.toList with
  | nil =>
   have:=congrArg List.length e;rw[Yc]at this;have h2:n.cps.size=n.length:=rfl;rw[h2]at this;simp at this;lia
  | cons c r =>
   refine⟨c,?_,fun z=>?_,fun z=>by cases z⟩
   ·show atI n.cps.toList 0=_;rw[e];exact Fu
   ·have hc:=h.2.2 c (by show c∈n.cps.toList;rw[e];exact Zc)
    have z1:(⟨#[c]⟩:Str)=minus:=V.str.inj z;rw[← em]at z1;have z2:c=45:=by simpa using z1
    lia
theorem BJ{n:Str}(h:Nm n):∃c r,n.cps.toList=c::r/\c≠45:=by
 cases e:n.cps.toList with
 | nil =>
  have h1:1<=n.length:=h.1;have:=congrArg List.length e;rw[Yc]at this;have h2:n.cps.size=n.length:=rfl;rw[h2]at this;simp at this;lia
 | cons c r =>
  refine⟨c,r,rfl,fun z=>?_⟩;have hc:=h.2.2 c (by rw[e];exact Zc)
  lia
theorem xc{t:Bool}{n:Str}(h:Nm n):Txt.startswith (bd (t,n)) minus=t:=by
 have e1:minus.length=1:=by decide +kernel
 have hl:=(ut (p:=(t,n)) h).1;unfold Txt.startswith
 rw[decide_eq_true (show 0+minus.length<=(bd (t,n)).length by lia),Bool.true_and,StrLaws.subAt_eq,eE,e1]
 cases t with
 | true =>
  show((((minus++n).cps.toList).drop 0).take 1 == [45])=true;rw[Str.cps_append,Array.toList_append,eE];rfl
 | false =>
  obtain⟨c,r,e,hc⟩:=BJ h;show(((n.cps.toList).drop 0).take 1 == [45])=false;rw[e];show([c] == [45])=false;simp[hc]
end VL
namespace K08
open PySem L2 VF VF22
noncomputable section
noncomputable def md:FS :=
  (bE (fBM "str" u9 (ai 0) (ae (fC (.str "-")) am)))
noncomputable def b9:List D->Option Rz:=bM md 1 1
noncomputable def pZ:FS :=
  (bE (fIf (aH (bc b9 (ae (ai 0) am))) (fSl bSl (ai 0) (kL (fC (.int 1))) oNo) (ai 0)))
noncomputable def bV:List D->Option Rz:=bM pZ 1 1
noncomputable def n9:FS :=
  (bE (fIf (aH (bc b9 (ae (ai 0) am))) (bc bV (ae (ai 0) am)) (fOp cS (fC (.str "-")) (ai 0))))
noncomputable def dG:List D->Option Rz:=bM n9 1 1
noncomputable def iM:FS :=
  (bE (fCB b8 (ae (eN 1 [] (vk (ai 0)) (gN 0) dB (bc dG (ae (ai 0) am))) am)))
noncomputable def cV:List D->Option Rz:=bM iM 1 1
noncomputable def kR:FS :=
  (aS (sIf (aH (fOp bEq (fCB eU (ae (ai 0) am)) (fC (.int 1)))) (bE (dC (ae (bc bV (ae (fOp bIx (ai 0) (fC (.int 0))) am)) am))) cw)
  (aS (sIf (aH (fOp bLt (bc bV (ae (fOp bIx (ai 0) (fC (.int 0))) am)) (bc bV (ae (fOp bIx (ai 0) (fUn rS (fC (.int 1)))) am)))) (bE (fCB b8 (ae (ai 0) am))) cw)
  (bE (bB cV (ae (ai 0) am)))))
noncomputable def gZ:List D->Option Rz:=bM kR 1 1
noncomputable def jB:FS :=
  (aS (bU (eN 1 [] (fIA (ai 0)) (gN 0) dB (bc bV (ae (ai 0) am))) 1)
  (bE (fBM "list" bIndex (ai 1) (ae (fCB sP (ae (ai 1) am)) am))))
noncomputable def cO:List D->Option Rz:=bM jB 2 1
noncomputable def kT:FS :=
  (aS (bU (fIf (aH (bc b9 (ae (fOp bIx (ai 0) (bc cO (ae (ai 0) am))) am))) (bB cV (ae (ai 0) am)) (fCB b8 (ae (ai 0) am))) 1)
  (aS (bU (bc cO (ae (ai 1) am)) 2)
  (bE (fOp pP (fSl sn (ai 1) (kL (ai 2)) oNo) (fSl sn (ai 1) oNo (kL (ai 2)))))))
noncomputable def g6:List D->Option Rz:=bM kT 3 1
noncomputable def iN:FS :=
  (aS (sIf (aH (fOp bEq (fOp bIx (ai 0) (fC (.int 0))) (fC (.str "open")))) (bE (dC (ae (fC (.str "open")) (ae (bB gZ (ae (fOp bIx (ai 0) (fC (.int 1))) am)) am)))) cw)
  (bE (dC (ae (fC (.str "ring")) (ae (bB g6 (ae (fOp bIx (ai 0) (fC (.int 1))) am)) am)))))
noncomputable def cW:List D->Option Rz:=bM iN 1 1
noncomputable def jC:FS :=
  (bE (dC (ae (fOp bEq (fOp bIx (ai 0) (fC (.int 0))) (fC (.str "ring"))) (ae (bc bV (ae (fOp bIx (fOp bIx (ai 0) (fC (.int 1))) (fC (.int 0))) am)) am))))
noncomputable def cP:List D->Option Rz:=bM jC 1 1
noncomputable def vV:FS :=
  (bE (fCB b8 (ae (fCB (uq cP) (ae (eN 1 [] (fIA (ai 0)) (gN 0) dB (bB cW (ae (ai 0) am))) am)) am)))
noncomputable def qO:List D->Option Rz:=bM vV 1 1
noncomputable def og:FS :=
  (bE (dC (ae (bc bV (ae (ai 0) am)) (ae (fIf (aH (bc b9 (ae (ai 0) am))) (fC (.int 1)) (fC (.int 0))) am))))
noncomputable def dH:List D->Option Rz:=bM og 1 1
noncomputable def me:FS :=
  (bE (bB dH (ae (bc dG (ae (ai 0) am)) am)))
noncomputable def dL:List D->Option Rz:=bM me 1 1
noncomputable def oh:FS :=
  (bE (fCB b8 (ae (fCB cx (ae (ai 0) am)) am)))
noncomputable def eG:List D->Option Rz:=bM oh 1 1
noncomputable def iO:FS :=
  (bE (eN 2 [] (fIZ (ae (ai 0) (ae (fSl bSl (ai 0) (kL (fC (.int 1))) oNo) am))) (gT 2 (gsC (gN 0) (gsC (gN 1) gsN))) dB (bB eG (ae (dC (ae (bB dL (ae (ai 0) am)) (ae (bB dH (ae (ai 1) am)) am))) am))))
noncomputable def d6:List D->Option Rz:=bM iO 1 1
noncomputable def ik:FS :=
  (aS (bU (fOp bIx (ai 0) (fC (.int 1))) 1)
  (aS (bU (bB dH (ae (fOp bIx (ai 1) (fC (.int 0))) am)) 2)
  (aS (bU (bB dL (ae (fOp bIx (ai 1) (fUn rS (fC (.int 1)))) am)) 3)
  (aS (bU (fIf (aH (fOp bEq (fOp bIx (ai 0) (fC (.int 0))) (fC (.str "open")))) (cX (ae (dC (ae (ai 2) am)) (ae (dC (ae (ai 3) am)) am))) (cX (ae (bB eG (ae (dC (ae (ai 2) (ae (ai 3) am))) am)) am))) 4)
  (bE (fOp cS (bB d6 (ae (ai 1) am)) (ai 4)))))))
noncomputable def dr:List D->Option Rz:=bM ik 5 1
noncomputable def mf:FS :=
  (aS (bU (cX am) 1)
  (aS (jx (fIA (ai 0)) (gN 2) (dR (fM isL mU 1 (ae (bB dr (ae (ai 2) am)) am))))
  (bE (fCB b8 (ae (fCB cx (ae (ai 1) am)) am)))))
noncomputable def iP:List D->Option Rz:=bM mf 3 1
noncomputable def im:FS :=
  (aS (mz pV (fIf (aH (fOp bEq (fCB eU (ae (ai 2) am)) (fC (.int 2)))) (fOp bIx (ai 2) (fC (.int 1))) (fC .non)) 1 (fOp bIx (ai 2) (fC (.int 0))))
  (mz pV (fIf (aH (fOp bEq (fCB eU (ae (ai 2) am)) (fC (.int 2)))) (fOp bIx (ai 2) (fC (.int 0))) (fC .non)) 1 (fOp bIx (ai 2) (fUn rS (fC (.int 1))))))
noncomputable def jE:FS :=
  (aS (bU (vQ (.dt [])) 1)
  (aS (jx (fIA (ai 0)) (gN 2) im)
  (bE (ai 1))))
noncomputable def f9:List D->Option Rz:=bM jE 3 1
noncomputable def p6:FS :=
  (bE (fIf (aH (fOp bEq (fOp bIx (ai 0) (fC (.int 1))) (fC (.int 0)))) (fOp bIx (ai 0) (fC (.int 0))) (bc dG (ae (fOp bIx (ai 0) (fC (.int 0))) am))))
noncomputable def jr:List D->Option Rz:=bM p6 1 1
noncomputable def sS:FS :=
  (bE (dC (ae (fOp bIx (ai 0) (fC (.int 0))) (ae (fOp AW (fC (.int 1)) (fOp bIx (ai 0) (fC (.int 1)))) am))))
noncomputable def kU:List D->Option Rz:=bM sS 1 1
noncomputable def iQ:FS :=
  (aS (dR (fM isL cH 2 (ae (bB jr (ae (ai 3) am)) am)))
  (bU (fOp kO (ai 1) (bB kU (ae (ai 3) am))) 3))
noncomputable def kW:FS :=
  (aS (bU (cX (ae (bB jr (ae (ai 0) am)) am)) 2)
  (aS (bU (fOp kO (ai 1) (bB kU (ae (ai 0) am))) 3)
  (aS (sWh (eY (aH (fOp (mB true) (ai 3) (fC .non))) (aH (fOp jz (ai 3) (ai 0)))) iQ 100)
  (bE (fCB b8 (ae (ai 2) am))))))
noncomputable def fq:List D->Option Rz:=bM kW 4 2
noncomputable def jX:FT :=
  (aH (fOp (mB false) (fOp kO (ai 1) (ai 0)) (fC .non)))
noncomputable def jY:FE :=
  (ai 0)
noncomputable def jZ:FS :=
  (mz pV (fC (.bl true)) 4 (bc bV (ae (ai 7) am)))
noncomputable def oi:FS :=
  (sIf (aH (fOp (Eu true) (fOp bIx (ai 5) (fC (.int 0))) (ai 4))) (aS (bU (bB fq (ae (ai 5) (ae (ai 1) am))) 6)
  (aS (dR (fM isL cH 3 (ae (dC (ae (fIf (aH (fOp (mB false) (fOp kO (ai 1) (ai 5)) (fC .non))) (fC (.str "open")) (fC (.str "ring"))) (ae (ai 6) am))) am)))
  (jx (fIA (ai 6)) (gN 7) jZ))) cw)
noncomputable def sT:FS :=
  (aS (bU (bB f9 (ae (ai 0) am)) 1)
  (aS (bU (eN 1 [1] (fIA (fCB jW (ae (ai 1) am))) (gN 0) jX jY) 2)
  (aS (bU (cX am) 3)
  (aS (bU (vQ (.dk [])) 4)
  (aS (jx (fIA (fOp cS (ai 2) (fCB jW (ae (ai 1) am)))) (gN 5) oi)
  (bE (bB qO (ae (ai 3) am))))))))
noncomputable def gA:List D->Option Rz:=bM sT 8 1
noncomputable def oj:FS :=
  (bE (cX (ae (fCB uc (ae (ai 0) am)) (ae (fC (.int 0)) (ae (fC (.int 0)) (ae (fC (.int 1)) (ae (fC (.int 0)) am)))))))
noncomputable def j0:List D->Option Rz:=bM oj 1 1
noncomputable def j8:FS :=
  (aS (sIf (eY (aH (fOp bEq (fOp bIx (ai 0) (fC (.int 2))) (fC (.int 0)))) (aH (fOp bLt (fOp bIx (ai 0) (fC (.int 1))) (fCB eU (ae (fOp bIx (ai 0) (fC (.int 0))) am))))) (aS (bU (fOp bIx (fOp bIx (ai 0) (fC (.int 0))) (fOp bIx (ai 0) (fC (.int 1)))) 2)
  (aS (mz nG (fOp cS (fOp bIx (ai 0) (fC (.int 1))) (fC (.int 1))) 0 (fC (.int 1)))
  (sIf (aH (fOp bGe (ai 2) (fOp FB (fC (.int 10)) (fC (.int 18))))) (mz nG (ai 2) 0 (fC (.int 2))) (mz nG (fOp nF (fOp cS (fOp cS (fOp oU (fOp bIx (ai 0) (fC (.int 3))) (fC (.int 40013))) (fOp nF (ai 2) (fC (.int 1000003)))) (fC (.int 1))) (fC (.int 2147483647))) 0 (fC (.int 3)))))) cw)
  (aS (sIf (aH (fOp bGt (fOp bIx (ai 0) (fC (.int 2))) (fC (.int 0)))) (aS (bU (fOp nF (fOp bIx (ai 0) (fC (.int 2))) (ai 1)) 3)
  (aS (mz nG (fOp t5 (fOp bIx (ai 0) (fC (.int 2))) (ai 1)) 0 (fC (.int 2)))
  (bE (ai 3)))) cw)
  (aS (mz nG (fOp cS (fOp bIx (ai 0) (fC (.int 4))) (fC (.int 1))) 0 (fC (.int 4)))
  (aS (mz nG (fOp nF (fOp cS (fOp cS (fOp oU (fOp bIx (ai 0) (fC (.int 3))) (fC (.int 48271))) (fC (.int 12820163))) (fOp bIx (ai 0) (fC (.int 4)))) (fC (.int 2147483647))) 0 (fC (.int 3)))
  (bE (fOp nF (fOp t5 (fOp nF (fOp oU (fOp cS (fOp nF (fOp bIx (ai 0) (fC (.int 3))) (fC (.int 65521))) (fC (.int 1))) (fOp cS (fOp t5 (fOp bIx (ai 0) (fC (.int 3))) (fC (.int 65521))) (fC (.int 7919)))) (fC (.int 1000003))) (fC (.int 7))) (ai 1)))))))
noncomputable def bo:D->List D->Option (Rz×D):=dD j8 4 2
noncomputable def jF:FS :=
  (bE (fBM "str" yA (fC (.str "")) (ae (eN 1 [0] (rO (ae (ai 1) am)) (gN 0) dB (fOp bIx (fC (.str "abcdefghijklmnopqrstuvwxyz")) (fIO bo 1 (ae (fC (.int 26)) am)))) am)))
noncomputable def df:D->List D->Option (Rz×D):=dD jF 2 2
noncomputable def ol:FS :=
  (aS (sIf (aH (fOp bNe (ai 1) (fC (.str "")))) (bE (fOp cS (ai 1) (fIO df 0 (ae (fOp cS (fC (.int 1)) (fIO bo 0 (ae (fC (.int 2)) am))) am)))) cw)
  (aS (sIf (aH (fOp bEq (fIO bo 0 (ae (fC (.int 7)) am)) (fC (.int 0)))) (aS (bU (cX (yD ["to","turn","turns","ring","rings","odd","ours","row","rows","cuts","knots","cover"])) 2)
  (aS (bU (fOp cS (ai 2) (cX (yD ["change","joins","theirs","one","two","home","none","open","keep","tox","onex"]))) 2)
  (bE (fOp bIx (ai 2) (fIO bo 0 (ae (fC (.int 23)) am)))))) cw)
  (bE (fIO df 0 (ae (fOp cS (fC (.int 1)) (fIO bo 0 (ae (fC (.int 6)) am))) am)))))
noncomputable def j9:D->List D->Option (Rz×D):=dD ol 3 2
noncomputable def iR:FS :=
  (aS (bU (fC (.str "")) 2)
  (aS (sIf (aH (fOp bEq (fIO bo 0 (ae (fC (.int 3)) am)) (fC (.int 0)))) (bU (fIO df 0 (ae (fOp cS (fC (.int 1)) (fIO bo 0 (ae (fC (.int 4)) am))) am)) 2) cw)
  (aS (bU (cX am) 3)
  (aS (jx (rO (ae (ai 1) am)) (gN 4) (aS (bU (fIO j9 0 (ae (ai 2) am)) 5)
  (aS (bU (fC (.int 0)) 6)
  (aS (sWh (aH (fOp bIn (ai 5) (ai 3))) (aS (bU (fOp oU (fOp bIx (fC (.str "abcdefghijklmnopqrstuvwxyz")) (fOp nF (ai 6) (fC (.int 26)))) (fOp cS (fC (.int 1)) (fOp t5 (ai 6) (fC (.int 26))))) 5)
  (bU (fOp cS (ai 6) (fC (.int 1))) 6)) 200)
  (dR (fM isL cH 3 (ae (ai 5) am)))))))
  (bE (ai 3))))))
noncomputable def iS:D->List D->Option (Rz×D):=dD iR 7 2
noncomputable def iT:FS :=
  (aS (bU (fCB uc (ae (ai 1) am)) 2)
  (aS (bU (cX am) 3)
  (aS (sWh (aH (fOp bNe (ai 2) (cX am))) (dR (fM isL cH 3 (ae (fM isL qz 2 (ae (fIO bo 0 (ae (fCB eU (ae (ai 2) am)) am)) am)) am))) 300)
  (bE (ai 3)))))
noncomputable def d7:D->List D->Option (Rz×D):=dD iT 4 2
noncomputable def mj(gs:List D->Option Rz):FS :=
  (aS (sIf (aH (fOp (mB false) (ai 1) (fC .non))) (bE (fOp (mB false) (ai 0) (fC .non))) cw)
  (aS (sIf (oT (aH (fCB bZ (ae (ai 1) (ae (fC (.ty "bool")) am)))) (aH (fCB bZ (ae (ai 0) (ae (fC (.ty "bool")) am))))) (bE (iE (fCB bZ (ae (ai 1) (ae (fC (.ty "bool")) am))) (iE (fCB bZ (ae (ai 0) (ae (fC (.ty "bool")) am))) (fOp bEq (ai 0) (ai 1))))) cw)
  (aS (sIf (aH (fCB bZ (ae (ai 1) (ae (fC (.ty "int")) am)))) (bE (iE (fCB bZ (ae (ai 0) (ae (fC (.ty "int")) am))) (fOp bEq (ai 0) (ai 1)))) cw)
  (aS (sIf (aH (fCB bZ (ae (ai 1) (ae (fC (.ty "str")) am)))) (bE (iE (fCB bZ (ae (ai 0) (ae (fC (.ty "str")) am))) (fOp bEq (ai 0) (ai 1)))) cw)
  (aS (sIf (oT (aH (fOp bNe (fCB bZ (ae (ai 1) (ae (fC (.ty "tuple")) am))) (fCB bZ (ae (ai 0) (ae (fC (.ty "tuple")) am))))) (aH (fOp bNe (fCB bZ (ae (ai 1) (ae (fC (.ty "list")) am))) (fCB bZ (ae (ai 0) (ae (fC (.ty "list")) am)))))) (bE (fC (.bl false))) cw)
  (bE (iE (fOp bEq (fCB eU (ae (ai 0) am)) (fCB eU (ae (ai 1) am))) (fCB A9 (ae (eN 1 [0,1] (rO (ae (fCB eU (ae (ai 1) am)) am)) (gN 0) dB (bc gs (ae (fOp bIx (ai 1) (ai 0)) (ae (fOp bIx (ai 2) (ai 0)) am)))) am)))))))))
noncomputable def om:FS :=
  (aS (sIf (aH (fOp bEq (fOp bIx (ai 0) (fC (.int 0))) (fC (.str "-")))) (bE (dC (ae (dC (ae (fSl bSl (ai 0) (kL (fC (.int 1))) oNo) (ae (fC (.int 1)) am))) (ae (dC (ae (fSl bSl (ai 0) (kL (fC (.int 1))) oNo) (ae (fC (.int 0)) am))) am)))) cw)
  (bE (dC (ae (dC (ae (ai 0) (ae (fC (.int 0)) am))) (ae (dC (ae (ai 0) (ae (fC (.int 1)) am))) am)))))
noncomputable def fG:List D->Option Rz:=bM om 1 1
noncomputable def g9:FS :=
  (aS (bU (cX am) 1)
  (aS (jx (fIA (ai 0)) (gT 2 (gsC (gN 2) (gsC (gN 3) gsN))) (aS (bU (eN 1 [] (fIA (ai 3)) (gN 0) dB (bB fG (ae (ai 0) am))) 4)
  (aS (jx (rO (ae (fOp AW (fCB eU (ae (ai 4) am)) (fC (.int 1))) am)) (gN 5) (dR (fM isL cH 1 (ae (fCB b8 (ae (fCB cx (ae (cX (ae (fOp bIx (fOp bIx (ai 4) (ai 5)) (fC (.int 1))) (ae (fOp bIx (fOp bIx (ai 4) (fOp cS (ai 5) (fC (.int 1)))) (fC (.int 0))) am))) am)) am)) am))))
  (sIf (aH (fOp bEq (ai 2) (fC (.str "ring")))) (dR (fM isL cH 1 (ae (fCB b8 (ae (fCB cx (ae (cX (ae (fOp bIx (fOp bIx (ai 4) (fUn rS (fC (.int 1)))) (fC (.int 1))) (ae (fOp bIx (fOp bIx (ai 4) (fC (.int 0))) (fC (.int 0))) am))) am)) am)) am))) (aS (dR (fM isL cH 1 (ae (dC (ae (fOp bIx (fOp bIx (ai 4) (fC (.int 0))) (fC (.int 0))) am)) am)))
  (dR (fM isL cH 1 (ae (dC (ae (fOp bIx (fOp bIx (ai 4) (fUn rS (fC (.int 1)))) (fC (.int 1))) am)) am))))))))
  (bE (fCB b8 (ae (fCB cx (ae (ai 1) am)) am)))))
noncomputable def hU:List D->Option Rz:=bM g9 6 1
noncomputable def ip:FE :=
  (dC (ae (ai 0) (ae (fC (.int 0)) am)))
noncomputable def iq:FE :=
  (dC (ae (ai 0) (ae (fC (.int 1)) am)))
noncomputable def eW:FS :=
  (aS (bU (dC (ae (fM0 isL t9 2) am)) 4)
  (aS (sIf (eY (aH (fOp bNe (ai 2) (cX am))) (aH (fOp bNe (fIO bo 0 (ae (fC (.int 4)) am)) (fC (.int 0))))) (bU (fCB b8 (ae (fCB cx (ae (cX (ae (fOp bIx (ai 4) (fC (.int 0))) (ae (fM0 isL t9 2) am))) am)) am)) 4) cw)
  (dR (fM isL cH 3 (ae (ai 4) am)))))
noncomputable def jG:FS :=
  (aS (bU (fIO d7 0 (ae (fOp cS (eN 1 [] (fIA (ai 1)) (gN 0) dB ip) (eN 1 [] (fIA (ai 1)) (gN 0) dB iq)) am)) 2)
  (aS (bU (cX am) 3)
  (aS (sWh (aH (fOp bNe (ai 2) (cX am))) eW 300)
  (bE (ai 3)))))
noncomputable def gc:D->List D->Option (Rz×D):=dD jG 5 2
noncomputable def fH:FS :=
  (aS (bU (cX am) 1)
  (aS (jx (fIA (ai 0)) (gT 2 (gsC (gN 2) (gsC (gN 3) gsN))) (aS (bU (eN 1 [] (fIA (ai 3)) (gN 0) dB (fBM "str" iL (ai 0) (ae (fC (.str "-")) am))) 4)
  (aS (sIf (eY (aH (fOp nO (ai 2) (fC (.str "ring")))) (oT (aH (fOp jz (fOp bIx (ai 4) (fC (.int 0))) (fCB sP (ae (ai 4) am)))) (aH (fOp jz (fOp bIx (ai 3) (fC (.int 0))) (fOp bIx (ai 4) (fC (.int 0))))))) (bE (fC (.bl false))) cw)
  (aS (sIf (eY (aH (fOp nO (ai 2) (fC (.str "open")))) (eY (aH (fOp nO (fCB eU (ae (ai 3) am)) (fC (.int 1)))) (aH (fOp jz (fOp bIx (ai 3) (fC (.int 0))) (fOp bIx (ai 4) (fC (.int 0))))))) (bE (fC (.bl false))) cw)
  (aS (sIf (eY (aH (fOp nO (ai 2) (fC (.str "open")))) (eY (aH (fOp bGt (fCB eU (ae (ai 3) am)) (fC (.int 1)))) (aH (fOp bLt (fOp bIx (ai 4) (fUn rS (fC (.int 1)))) (fOp bIx (ai 4) (fC (.int 0))))))) (bE (fC (.bl false))) cw)
  (dR (fM isL cH 1 (ae (dC (ae (fBM "list" bIndex (cX (ae (fC (.str "open")) (ae (fC (.str "ring")) am))) (ae (ai 2) am)) (ae (fOp bIx (ai 4) (fC (.int 0))) am))) am))))))))
  (bE (fOp nO (ai 1) (fCB cx (ae (ai 1) am))))))
noncomputable def fI:List D->Option Rz:=bM fH 5 1
noncomputable def on:FS :=
  (aS (sIf (aH (fOp bEq (fIO bo 0 (ae (fC (.int 8)) am)) (fC (.int 0)))) (bE (fOp AW (fC (.int 40)) (fIO bo 0 (ae (fC (.int 31)) am)))) cw)
  (bE (fIO bo 0 (ae (fOp cS (ai 1) (fC (.int 1))) am))))
noncomputable def kc:D->List D->Option (Rz×D):=dD on 2 2
noncomputable def hV:FS :=
  (aS (sIf (iD (aH (fCB bZ (ae (ai 0) (ae (fC (.ty "tuple")) am))))) (bE (fC (.bl false))) cw)
  (aS (jx (fIA (ai 0)) (gN 1) (aS (sIf (oT (iD (aH (fCB bZ (ae (ai 1) (ae (fC (.ty "tuple")) am))))) (oT (aH (fOp bNe (fCB eU (ae (ai 1) am)) (fC (.int 2)))) (aH (fOp yt (fOp bIx (ai 1) (fC (.int 0))) (cX (ae (fC (.str "open")) (ae (fC (.str "ring")) am))))))) (bE (fC (.bl false))) cw)
  (aS (sIf (oT (iD (aH (fCB bZ (ae (fOp bIx (ai 1) (fC (.int 1))) (ae (fC (.ty "tuple")) am))))) (aH (fOp bEq (fCB eU (ae (fOp bIx (ai 1) (fC (.int 1))) am)) (fC (.int 0))))) (bE (fC (.bl false))) cw)
  (sIf (iD (aH (fCB A9 (ae (eN 1 [] (fIA (fOp bIx (ai 1) (fC (.int 1)))) (gN 0) dB (iE (fCB bZ (ae (ai 0) (ae (fC (.ty "str")) am))) (fOp bNe (fBM "str" iL (ai 0) (ae (fC (.str "-")) am)) (fC (.str ""))))) am)))) (bE (fC (.bl false))) cw))))
  (bE (fC (.bl true)))))
noncomputable def hW:List D->Option Rz:=bM hV 2 1
noncomputable def CP:FS :=
  (aS (bU (bB j0 (ae (ai 0) am)) 1)
  (aS (bU (fIO iS 1 (ae (fIO kc 1 (ae (fC (.int 9)) am)) am)) 2)
  (aS (bU (fIO gc 1 (ae (ai 2) am)) 3)
  (aS (bU (bB gA (ae (fCB b8 (ae (ai 3) am)) am)) 4)
  (aS (sIf (oT (iD (aH (bc hW (ae (ai 4) am)))) (iD (aH (bc fI (ae (ai 4) am))))) (bE (fC (.bl false))) cw)
  (aS (sIf (aH (fOp jz (bB hU (ae (ai 4) am)) (fCB b8 (ae (fCB cx (ae (ai 3) am)) am)))) (bE (fC (.bl false))) cw)
  (aS (sIf (iD (aH (bc (dU 4) (ae (bB gA (ae (fCB b8 (ae (fIO d7 1 (ae (ai 3) am)) am)) am)) (ae (ai 4) am))))) (bE (fC (.bl false))) cw)
  (bE (bc (dU 4) (ae (bB gA (ae (bB iP (ae (ai 4) am)) am)) (ae (ai 4) am)))))))))))
noncomputable def Gr:List D->Option Rz:=bM CP 5 1
end
end K08
namespace K08
open PySem L2 VF VF22
noncomputable def top(i:Nat):Stmt:=PySem.Challenge.pw_strandwright_k08_whole_sets_of_joints.main.body.getD i (.Pass ⟨0,0,0,0⟩)
noncomputable abbrev lM:Stmt:=top 1
noncomputable abbrev qP:Stmt:=top 2
noncomputable abbrev lN:Stmt:=top 3
noncomputable abbrev ft:Stmt:=top 4
noncomputable abbrev kf:Stmt:=top 6
noncomputable abbrev fS:Stmt:=top 7
noncomputable abbrev ki:Stmt:=top 8
noncomputable abbrev hZ:Stmt:=top 9
noncomputable abbrev iU:Stmt:=top 10
noncomputable abbrev qQ:Stmt:=top 11
noncomputable abbrev oq:Stmt:=top 13
noncomputable abbrev lO:Stmt:=top 14
noncomputable abbrev ot:Stmt:=top 15
noncomputable abbrev fu:Stmt:=top 16
noncomputable abbrev gf:Stmt:=top 17
noncomputable abbrev lP:Stmt:=top 18
noncomputable abbrev iV:Stmt:=top 19
noncomputable abbrev qR:Stmt:=top 20
noncomputable abbrev qS:Stmt:=top 21
noncomputable abbrev kj:Stmt:=top 22
noncomputable abbrev qT:Stmt:=top 23
noncomputable abbrev uu:Stmt:=top 25
noncomputable abbrev uv:Stmt:=top 26
noncomputable abbrev jt:Stmt:=top 27
noncomputable abbrev uw:Stmt:=top 28
noncomputable abbrev qU:Stmt:=top 29
noncomputable abbrev km:Stmt:=top 30
noncomputable abbrev m7:Stmt:=top 31
noncomputable abbrev ux:Stmt:=top 32
noncomputable abbrev kX:Stmt:=top 33
noncomputable abbrev gB:Stmt:=top 34
noncomputable abbrev ju:Stmt:=top 35
noncomputable abbrev uz:Stmt:=top 36
noncomputable abbrev m8:Stmt:=top 37
noncomputable abbrev ED:Stmt:=top 38
theorem qV:FnScope ["bead"] ["bead"] (aB lM):=fsc (by decide +kernel)
theorem uA:FnScope ["bead"] ["bead"] (aB qP):=fsc (by decide +kernel)
theorem qW:FnScope ["bead"] ["bead"] (aB lN):=fsc (by decide +kernel)
theorem mF:FnScope ["beads"] ["beads"] (aB ft):=fsc (by decide +kernel)
theorem oW:FnScope ["beads"] ["beads"] (aB kf):=fsc (by decide +kernel)
theorem sc_sfirstplace:FnScope ["beads","names"] ["beads"] (aB fS):=fsc (by decide +kernel)
theorem sc_scanonring:FnScope ["beads","side","begin"] ["beads"] (aB ki):=fsc (by decide +kernel)
theorem mG:FnScope ["strand"] ["strand"] (aB hZ):=fsc (by decide +kernel)
theorem ou:FnScope ["strand"] ["strand"] (aB iU):=fsc (by decide +kernel)
theorem xf:FnScope ["some"] ["some"] (aB qQ):=fsc (by decide +kernel)
theorem sU:FnScope ["bead"] ["bead"] (aB oq):=fsc (by decide +kernel)
theorem qX:FnScope ["bead"] ["bead"] (aB lO):=fsc (by decide +kernel)
theorem sV:FnScope ["ends"] ["ends"] (aB ot):=fsc (by decide +kernel)
theorem mH:FnScope ["beads"] ["beads"] (aB fu):=fsc (by decide +kernel)
theorem sc_sstrandjoints:FnScope ["strand","beads","begin","end","outer"] ["strand"] (aB gf):=fsc (by decide +kernel)
theorem sc_sjointsof:FnScope ["some","joints","strand"] ["some"] (aB lP):=fsc (by decide +kernel)
theorem sc_sendsbeyond:FnScope ["joints","beyond","joint"] ["joints"] (aB iV):=fsc (by decide +kernel)
theorem uB:FnScope ["end"] ["end"] (aB qR):=fsc (by decide +kernel)
theorem uC:FnScope ["end"] ["end"] (aB qS):=fsc (by decide +kernel)
theorem sc_sbeadsfrom:FnScope ["begin","beyond","beads","here"] ["begin","beyond"] (aB kj):=fsc (by decide +kernel)
theorem sc_ssetof:FnScope ["joints","beyond","free","strands","seen","end","beads","bead"] ["joints"] (aB qT):=fsc (by decide +kernel)
theorem xg:FnScope ["_law_script"] ["_law_script"] (aB uu):=fsc (by decide +kernel)
theorem sc_sLpick:FnScope ["_law_flow_here","_law_many_here","_law_cell","_law_digit"] ["_law_flow_here","_law_many_here"] (aB uv):=fsc (by decide +kernel)
theorem qY:FnScope ["_law_flow_here","_law_many_here"] ["_law_flow_here","_law_many_here"] (aB jt):=fsc (by decide +kernel)
theorem sc_sLname:FnScope ["_law_flow_here","_law_stem","_law_words"] ["_law_flow_here","_law_stem"] (aB uw):=fsc (by decide +kernel)
theorem sc_sLnames:FnScope ["_law_flow_here","_law_many_here","_law_stem","_law_names_here","_law_k","_law_name_here","_law_spare"] ["_law_flow_here","_law_many_here"] (aB qU):=fsc (by decide +kernel)
theorem sc_sLshuffled:FnScope ["_law_flow_here","_law_things","_law_left","_law_told"] ["_law_flow_here","_law_things"] (aB km):=fsc (by decide +kernel)
theorem uD:FnScope ["_law_found","_law_due"] ["_law_found","_law_due"] (aB m7):=fsc (by decide +kernel)
theorem xh:FnScope ["_law_bead"] ["_law_bead"] (aB ux):=fsc (by decide +kernel)
theorem sc_sLjoints:FnScope ["_law_some","_law_joints_here","_law_kind","_law_beads","_law_ends_here","_law_k"] ["_law_some"] (aB kX):=fsc (by decide +kernel)
theorem sc_sLpairing:FnScope ["_law_flow_here","_law_names_here","_law_left","_law_joints_here","_law_joint"] ["_law_flow_here","_law_names_here"] (aB gB):=fsc (by decide +kernel)
theorem sc_sLiscanon:FnScope ["_law_some","_law_begins","_law_kind","_law_beads","_law_names_here"] ["_law_some"] (aB ju):=fsc (by decide +kernel)
theorem xi:FnScope ["_law_flow_here","_law_most"] ["_law_flow_here","_law_most"] (aB uz):=fsc (by decide +kernel)
theorem sc_sLisset:FnScope ["_law_some","_law_strand"] ["_law_some"] (aB m8):=fsc (by decide +kernel)
theorem sc_slaw:FnScope ["_law_script","_law_flow_here","_law_names_here","_law_joints_here","_law_found"] ["_law_script"] (aB ED):=fsc (by decide +kernel)
structure Md(mg:Str->Option Value):Prop where
 n_all:mg "all"=none
 n_bool:mg "bool"=none
 n_int:mg "int"=none
 n_isinstance:mg "isinstance"=none
 n_len:mg "len"=none
 n_list:mg "list"=none
 n_min:mg "min"=none
 n_range:mg "range"=none
 n_reversed:mg "reversed"=none
 n_sorted:mg "sorted"=none
 n_str:mg "str"=none
 n_tuple:mg "tuple"=none
 n_zip:mg "zip"=none
end K08
namespace VF
open PySem L2
theorem uE{i j:Int}(h:CMul i j):oU (.int i) (.int j)=some (.int (i*j),false):=by
 have:u8 (.int i) (.int j)=some (.int (i*j),false):=by
  show(if CMul i j then some (D.int (i*j),false) else none)=_;rw[if_pos h]
 unfold oU orD;rw[this]
theorem zL{i j:Int}(h:0<j):nF (.int i) (.int j)=some (.int (i % j),false):=by
 show(if 0<j then some (D.int (i % j),false) else none)=_;rw[if_pos h]
theorem EE{i j:Int}(h:tO i j):t5 (.int i) (.int j)=some (.int (i / j),false):=by
 show(if tO i j then some (D.int (i / j),false) else none)=_;rw[if_pos h]
theorem gh{ds:List D}{i:Int}{d:D}(h:atI ds i=some d):bIx (.lst ds) (.int i)=some (d,false):=by
 have:yu (.lst ds) (.int i)=some (d,false):=by
  show(atI ds i).bind (fun d=>some (d,false))=_;rw[h];rfl
 unfold bIx orD;rw[this]
theorem ix_tup{ds:List D}{i:Int}{d:D}(h:atI ds i=some d):bIx (.tup ds) (.int i)=some (d,false):=by
 have e1:yu (.tup ds) (.int i)=none:=rfl;have:A7 (.tup ds) (.int i)=some (d,false):=by
  show(atI ds i).bind (fun d=>some (d,false))=_;rw[h];rfl
 unfold bIx orD;rw[e1,this]
theorem eX{f:FT}{st s:En}{b c:Bool}(h:f st=some (b,s))(e:b=c):f st=some (c,s):=e ▸ h
theorem iW{mm:D->D->D->Option D}{fe fi:FE}{i:Nat}{st s1 s2 s3:En}{r rk:Rs}{dv dk z z':D}{t t0:Sl}{x0:D}(h1:fe st=some (r,s1))(h2:esc r s1=some (dv,s2))(h0:s2[i]?=some t0)(h00:t0.ow=some x0)(h3:fi s2=some (rk,s3))(h4:cont s3 rk=some dk)(h5:s3[i]?=some t)(h6:t.ow=some z)(h7:mm z dk dv=some z'){s4:En}(h8:s3.set i (t.put z')=s4:=by rfl):mz mm fe i fi st=some (.nx s4):=by
 simp only[mz,h1,h2,h0,h00,h3,h4,h5,h6,h7,h8,Qb]
end VF
namespace K08
open PySem L2 VF
noncomputable def Fl(ns:List Int)(i m sd c:Int):D:=.lst [.lst (ns.map D.int),.int i,.int m,.int sd,.int c]
noncomputable def d8(φ:D):Prop:=∃ns i m sd c,φ=Fl ns i m sd c/\0<=i/\0<=m/\0<=sd/\0<=c
theorem BK(ns:List Int):j0 [.fl (ns.map D.int)]=some (Fl ns 0 0 1 0,true):=rfl
theorem dw{φ : D}{n : Int}(hφ : d8 φ)(h0 : 0 < n)(h1 : n ≤ 1000) : ∃ d φ', bo φ [.int n] = some ((.int d, false), φ') ∧ 0 ≤ d ∧ d < n ∧ d8 φ' := by
  obtain ⟨ns, i, m, sd, c, rfl, hi, hm, hs, hc⟩ := hφ;have sp : ∃ A B, j8 = aS A B ∧
     (∃ o i' m' sd', A [.io (Fl ns i m sd c), .v (.int n), .e, .e] = some (.nx [.io (Fl ns i' m' sd' c), .v (.int n), o, .e]) ∧ 0 ≤ i' ∧ 0 ≤ m' ∧ 0 ≤ sd') ∧
     (∀ o i m sd, 0 ≤ i → 0 ≤ m → 0 ≤ sd → ∃ d φ' s3, B [.io (Fl ns i m sd c), .v (.int n), o, .e] = some (.rt (.d (.int d)) [.io φ', .v (.int n), o, s3]) ∧ 0 ≤ d ∧ d < n ∧ d8 φ') := by
    refine ⟨_, _, rfl, ?_, ?_⟩
    · by_cases c1 : m = 0
      · subst c1
        by_cases c2 : i < ((ns.map D.int).length : Int)
        · obtain ⟨v, hv, hm', _⟩ := tX hi c2
          obtain ⟨z, _, rfl⟩ := List.mem_map.mp hm';have t2 : eY (aH (fOp bEq (fOp bIx (ai 0) (fC (.int 2))) (fC (.int 0)))) (aH (fOp bLt (fOp bIx (ai 0) (fC (.int 1))) (fCB eU (ae (fOp bIx (ai 0) (fC (.int 0))) am)))) [.io (Fl ns i 0 sd c), .v (.int n), .e, .e] = some (true, [.io (Fl ns i 0 sd c), .v (.int n), .e, .e]) :=
            gz rfl (eX (b := decide (i < ((ns.map D.int).length : Int))) rfl (decide_eq_true c2))
          by_cases c3 : (10 : Int) ^ (18 : Int).toNat ≤ z
          · have p18 : (0 : Int) ≤ 10 ^ (18 : Int).toNat := by decide
            refine ⟨.v (.int z), i + 1, z, sd, ?_, by lia, by lia, hs⟩
            refine iI t2 ?_;refine az (dW (x := .int z) (aC rfl rfl rfl rfl (gh hv)) rfl) ?_;refine az (s := [.io (Fl ns (i + 1) 0 sd c), .v (.int n), .v (.int z), .e]) rfl ?_;refine iI (eX (b := decide ((10 : Int) ^ (18 : Int).toNat ≤ z)) (s := [.io (Fl ns (i + 1) 0 sd c), .v (.int n), .v (.int z), .e]) rfl (decide_eq_true c3)) ?_;rfl
          · refine ⟨.v (.int z), i + 1, 0, (sd * 40013 + z % 1000003 + 1) % 2147483647, ?_, by lia, by lia, Int.emod_nonneg _ (by decide)⟩
            refine iI t2 ?_;refine az (dW (x := .int z) (aC rfl rfl rfl rfl (gh hv)) rfl) ?_;refine az (s := [.io (Fl ns (i + 1) 0 sd c), .v (.int n), .v (.int z), .e]) rfl ?_;refine dM (eX (b := decide ((10 : Int) ^ (18 : Int).toNat ≤ z)) (s := [.io (Fl ns (i + 1) 0 sd c), .v (.int n), .v (.int z), .e]) rfl (decide_eq_false c3)) ?_;exact iW (aC (aC (aC (aC rfl rfl rfl rfl (uE (j := 40013) (.inr ⟨by decide, by decide⟩))) rfl rfl rfl rfl) rfl rfl rfl rfl) rfl rfl rfl rfl) rfl rfl rfl rfl rfl rfl rfl rfl
        · refine ⟨.e, i, 0, sd, ?_, hi, hm, hs⟩
          exact dM (gz (s := [.io (Fl ns i 0 sd c), .v (.int n), .e, .e]) rfl (eX (b := decide (i < ((ns.map D.int).length : Int))) rfl (decide_eq_false c2))) rfl
      · refine ⟨.e, i, m, sd, ?_, hi, hm, hs⟩
        have e : decide (V.int m = V.int 0) = false := decide_eq_false fun z => c1 (V.int.inj z);exact dM (lX (eX (b := decide (V.int m = V.int 0)) (s := [.io (Fl ns i m sd c), .v (.int n), .e, .e]) rfl e)) rfl
    · intro o i m sd hi hm hs
      by_cases c1 : 0 < m
      · refine ⟨m % n, Fl ns i (m / n) sd c, .v (.int (m % n)), ?_, Int.emod_nonneg _ (by lia), Int.emod_lt_of_pos _ h0, ⟨ns, i, m / n, sd, c, rfl, hi, Int.ediv_nonneg hm (by lia), hs, hc⟩⟩
        refine f6 ?_;refine iI (eX (b := decide (0 < m)) (s := [.io (Fl ns i m sd c), .v (.int n), o, .e]) rfl (decide_eq_true c1)) ?_;refine az (s := [.io (Fl ns i m sd c), .v (.int n), o, .v (.int (m % n))]) (dW (aC rfl rfl rfl rfl (zL h0)) rfl) ?_;refine az (s := [.io (Fl ns i (m / n) sd c), .v (.int n), o, .v (.int (m % n))]) (iW (aC rfl rfl rfl rfl (EE ⟨h0, by lia⟩)) rfl rfl rfl rfl rfl rfl rfl rfl) ?_
        rfl
      · refine ⟨(((sd * 48271 + 12820163 + (c + 1)) % 2147483647 % 65521 + 1) * ((sd * 48271 + 12820163 + (c + 1)) % 2147483647 / 65521 + 7919) % 1000003 / 7) % n, Fl ns i m ((sd * 48271 + 12820163 + (c + 1)) % 2147483647) (c + 1), .e, ?_, ?_, ?_, ⟨ns, i, m, _, _, rfl, hi, hm, Int.emod_nonneg _ (by decide), by lia⟩⟩
        · refine az (dM (eX (b := decide (0 < m)) (s := [.io (Fl ns i m sd c), .v (.int n), o, .e]) rfl (decide_eq_false c1)) rfl) ?_
          refine az (s := [.io (Fl ns i m sd (c + 1)), .v (.int n), o, .e]) rfl ?_;refine az (s := [.io (Fl ns i m ((sd * 48271 + 12820163 + (c + 1)) % 2147483647) (c + 1)), .v (.int n), o, .e]) (iW (aC (aC (aC (aC rfl rfl rfl rfl (uE (j := 48271) (.inr ⟨by decide, by decide⟩))) rfl rfl rfl rfl) rfl rfl rfl rfl) rfl rfl rfl rfl) rfl rfl rfl rfl rfl rfl rfl rfl) ?_
          have a := Int.emod_nonneg ((sd * 48271 + 12820163 + (c + 1)) % 2147483647) (show (65521 : Int) ≠ 0 by decide)
          have b := Int.emod_lt_of_pos ((sd * 48271 + 12820163 + (c + 1)) % 2147483647) (show (0 : Int) < 65521 by decide)
          exact aZ (aC (aC (aC (aC rfl rfl rfl rfl (uE (.inl ⟨by lia, by lia⟩))) rfl rfl rfl rfl) rfl rfl rfl rfl) rfl rfl rfl (zL h0))
        · exact Int.emod_nonneg _ (by lia)
        · exact Int.emod_lt_of_pos _ h0
  obtain ⟨A, B, eF, ⟨o, i', m', sd', eA, hi', hm', hs'⟩, hB⟩ := sp;obtain ⟨d, φ', s3, eB, h2, h3, h4⟩ := hB o i' m' sd' hi' hm' hs';refine ⟨d, φ', ?_, h2, h3, h4⟩;refine cN (o := .rt (.d (.int d)) [.io φ', .v (.int n), o, s3]) rfl ?_ rfl;rw [eF];exact az eA eB
end K08
namespace K08
open PySem L2 VF VL
theorem kn{φ:D}{k:Int}(hφ:d8 φ)(h0:0<=k)(h1:k<=100):∃x φ',df φ [.int k]=some ((.str x,false),φ')/\(x.length:Int)=k/\Lw x/\d8 φ':=by
 have hE:(Str.ofString "").length=0:=by decide +kernel
 have cl:=pL (fg:=gN 0) (fc:=dB) (k:=1) (fe:=fOp bIx (fC (.str "abcdefghijklmnopqrstuvwxyz")) (fIO bo 1 (ae (fC (.int 26)) am)))
  (fun pre sb=>∃φ' ys,sb=[.e,.io φ']/\d8 φ'/\pre=ys.map D.str/\∀y∈ys,∃c,y=(⟨#[c]⟩:Str)/\97<=c/\c<=122) (by
   rintro pre x sb ⟨φ',ys,rfl,hf,rfl,hy⟩;obtain⟨d,φ2,e,d0,d1,hf2⟩:=dw (n:=26) hf (by decide) (by decide)
   obtain⟨c,hc,hm,_⟩:=tX (xs:=letS.cps.toList) d0 (by rw[n6,List.length_range'];exact d1)
   refine⟨[.v x,.io φ'],[.v x,.io φ'],.d (.str ⟨#[c]⟩),[.v x,.io φ2],.str ⟨#[c]⟩,[.v x,.io φ2],rfl,rfl,aC rfl (cR rfl rfl rfl rfl rfl rfl e) rfl rfl (ix_str (by decide +kernel) hc),rfl,φ2,ys++[⟨#[c]⟩],rfl,hf2,by rw[Vc];rfl,fun y hy2=>?_⟩
   rcases Xc.mp hy2 with z|z
   ·exact hy y z
   ·have:y=⟨#[c]⟩:=by simpa using z
    rw[n6,List.mem_range'_1]at hm
    exact⟨c,this,by lia⟩)
  (rng 0 k.toNat) [] [.e,.io φ] ⟨φ,[],rfl,hφ,rfl,fun y hy=>by cases hy⟩
 obtain⟨ds,sf,e1,e2,φ',ys,rfl,hf,e3,hy⟩:=cl;rw[List.nil_append]at e3;subst e3;rw[fQ,Ya]at e2;have hy':∀y∈ys,∃c,y=(⟨#[c]⟩:Str):=fun y h=>by obtain⟨c,e,_⟩:=hy y h;exact⟨c,e⟩
 refine⟨Txt.join (Str.ofString "") ys,φ',?_,by rw[join_ones hy'];lia,zz hy,hf⟩
 have hj:yA (.str "") [.lst (ys.map D.str)]=some (.str (Txt.join (Str.ofString "") ys),false):=by
  show(fY (ys.map D.str)).bind (fun ys=>if (ys.map (·.length)).sum+ys.length*(Str.ofString "").length<=16777216 then some (D.str (Txt.join (Str.ofString "") ys),false) else none)=_;rw[gQ];show(if _ then _ else _)=_;rw[if_pos (by rw[zF hy',hE];lia)]
 refine cN (o:=.rt (.d (.str (Txt.join (Str.ofString "") ys))) [.io φ',.v (.int k)]) rfl ?_ rfl
 exact aZ (se rfl rfl rfl (ay (cY (jk rfl rfl ⟨by lia,by lia⟩) (by
  show(true&&decide ((rng 0 k.toNat).length<=1000000))=true
  rw[fQ,decide_eq_true (by lia)];rfl) e1) rfl) rfl rfl hj)
noncomputable abbrev w1:List Str:=["to","turn","turns","ring","rings","odd","ours","row","rows","cuts","knots","cover"]
noncomputable abbrev w2:List Str:=["change","joins","theirs","one","two","home","none","open","keep","tox","onex"]
noncomputable abbrev wordsS:List Str:=w1++w2
noncomputable def okN(x:Str):Bool:=decide (1<=x.length/\x.length<=6)&&x.cps.toList.all fun c=>decide (97<=c/\c<=122)
theorem EF{x:Str}(h:okN x=true):Nm x:=by
 unfold okN at h;rw[Yi,decide_eq_true_eq,Ql]at h;exact⟨h.1.1,h.1.2,fun c hc=>of_decide_eq_true (h.2 c hc)⟩
theorem zM:∀v∈wordsS,okN v=true:=Ql.mp (by decide +kernel)
theorem BL{φ:D}{st:Str}(hφ:d8 φ)(hst:st.length<=4)(lst:Lw st):∃x φ',j9 φ [.str st]=some ((.str x,false),φ')/\Nm x/\d8 φ':=by
 by_cases c0:st=""
 ·subst c0;obtain⟨d,φ1,e1,d0,d1,f1⟩:=dw (n:=7) hφ (by decide) (by decide)
  by_cases c1:d=0
  ·subst c1;obtain⟨d2,φ2,e2,d20,d21,f2⟩:=dw (n:=23) f1 (by decide) (by decide)
   obtain⟨v,hv,hm,_⟩:=tX (xs:=wordsS.map D.str) d20 (by rw[Ya];exact d21)
   obtain⟨x,hx,rfl⟩:=Qc.mp hm;refine⟨x,φ2,?_,EF (zM x hx),f2⟩;refine cN (o:=.rt (.d (.str x)) [.io φ2,.v (.str ""),.o (.lst (wordsS.map D.str))]) rfl ?_ rfl;refine az (s:=[.io φ,.v (.str ""),.e]) rfl ?_;refine f6 ?_;refine iI (s:=[.io φ1,.v (.str ""),.e]) (aN (aC (cR rfl rfl rfl rfl rfl rfl e1) rfl rfl rfl rfl) rfl) ?_;refine az (s:=[.io φ1,.v (.str ""),.o (.lst (w1.map D.str))]) rfl ?_;refine az (s:=[.io φ1,.v (.str ""),.o (.lst (wordsS.map D.str))]) rfl ?_;exact aZ (aC rfl (cR rfl rfl rfl rfl rfl rfl e2) rfl rfl (gh hv))
  ·obtain⟨d2,φ2,e2,d20,d21,f2⟩:=dw (n:=6) f1 (by decide) (by decide)
   obtain⟨x,φ3,e3,hx,lx,f3⟩:=kn (k:=1+d2) f2 (by lia) (by lia)
   refine⟨x,φ3,?_,⟨by lia,by lia,lx⟩,f3⟩
   refine cN (o:=.rt (.d (.str x)) [.io φ3,.v (.str ""),.e]) rfl ?_ rfl;refine az (s:=[.io φ,.v (.str ""),.e]) rfl ?_;have t:decide (V.int d=V.int 0)=false:=decide_eq_false fun z=>c1 (V.int.inj z);refine az (dM (s:=[.io φ1,.v (.str ""),.e]) (eX (b:=decide (V.int d=V.int 0)) (aN (aC (cR rfl rfl rfl rfl rfl rfl e1) rfl rfl rfl rfl) rfl) t) rfl) ?_;exact aZ (cR rfl rfl (ay (aC rfl (cR rfl rfl rfl rfl rfl rfl e2) rfl rfl rfl) rfl) rfl rfl rfl e3)
 ·obtain⟨d,φ1,e1,d0,d1,f1⟩:=dw (n:=2) hφ (by decide) (by decide)
  obtain⟨x,φ2,e2,hx,lx,f2⟩:=kn (k:=1+d) f1 (by lia) (by lia)
  refine⟨st++x,φ2,?_,⟨by rw[Str.length_append];lia,by rw[Str.length_append];lia,lst.app lx⟩,f2⟩
  refine cN (o:=.rt (.d (.str (st++x))) [.io φ2,.v (.str st),.e]) rfl ?_ rfl;refine f6 ?_;have t:(!decide (V.str st=V.str ""))=true:=by rw[decide_eq_false (fun z=>c0 (V.str.inj z))];rfl
  refine iI (s:=[.io φ,.v (.str st),.e]) (eX (b:=!decide (V.str st=V.str "")) rfl t) ?_;exact aZ (aC rfl (cR rfl rfl (ay (aC rfl (cR rfl rfl rfl rfl rfl rfl e1) rfl rfl rfl) rfl) rfl rfl rfl e2) rfl rfl (vn (by lia)))
end K08
namespace VF
open PySem L2
theorem b7{i:Nat}{s t:Sl}{st s1:En}(h:st[i]?=some t)(n:t.isIo=false)(e:st.set i s=s1:=by rfl):qq i s st=some s1:=by
 unfold qq;rw[h];show(if t.isIo=true then none else some (st.set i s))=_;rw[if_neg (by rw[n];decide),e]
theorem gi{xs:List D}{y:D}(h:xs.length<1000000):cH (.lst xs) [y]=some (.non,.lst (xs++[y])):=by
 show(if xs.length<1000000 then some (D.non,D.lst (xs++[y])) else none)=_;rw[if_pos h]
theorem zN{xs:List D}{i:Int}(h0:0<=i)(h1:i<xs.length)(h2:xs.length<=1000000)(hk:i.toNat<xs.length):qz (.lst xs) [.int i]=some (xs[i.toNat],.lst (xs.eraseIdx i.toNat)):=by
 show(if -(2 ^ 63)<=i/\i<2 ^ 63 then(seqIndex? i xs.length).bind fun k=>(xs[k]?).bind fun y=>some (y,D.lst (xs.eraseIdx k)) else none)=_;rw[if_pos ⟨by lia,by lia⟩,PySem.seqIndex_of h0 h1]
 show(xs[i.toNat]?).bind (fun y=>some (y,D.lst (xs.eraseIdx i.toNat)))=_;rw[Za hk];rfl
theorem kY{α:Type}{f:α->D}{g:D->α}(hg:∀a,g (f a)=a){ys:List D}{xs:List α}(p:ys.Perm (xs.map f)):∃zs:List α,ys=zs.map f/\zs.Perm xs:=by
 have h1:∀y∈ys,∃z,y=f z:=fun y hy=>by
  obtain⟨z,_,rfl⟩:=Qc.mp (p.mem_iff.mp hy);exact⟨z,rfl⟩
 refine⟨ys.map g,?_,?_⟩
 ·rw[Xg];refine(List.map_id' ys).symm.trans (Xk fun y hy=>?_);obtain⟨z,rfl⟩:=h1 y hy;show f z=f (g (f z));rw[hg]
 ·have:=p.map g;rw[Xg]at this;refine this.trans (List.Perm.of_eq ?_);exact(Xk fun z _=>hg z).trans (List.map_id' xs)
end VF
namespace K08
open PySem L2 VF VL
theorem zO{φ:D}{n:Int}(hφ:d8 φ)(h0:0<=n)(h1:n<=100):∃(xs:List Str)(φ':D),iS φ [.int n]=some ((.lst (xs.map D.str),true),φ')/\(xs.length:Int)=n/\(∀x∈xs,Nm x)/\xs.Nodup/\d8 φ':=by
 obtain⟨d,φ1,e1,d0,d1,f1⟩:=dw (n:=3) hφ (by decide) (by decide)
 have sp:∃A B C R,iR=aS A (aS B (aS C R)) /\
   (∃st φ2,A [.io φ,.v (.int n),.e,.e,.e,.e,.e]=some (.nx [.io φ,.v (.int n),.v (.str ""),.e,.e,.e,.e])/\B [.io φ,.v (.int n),.v (.str ""),.e,.e,.e,.e]=some (.nx [.io φ2,.v (.int n),.v (.str st),.e,.e,.e,.e]) /\
    C [.io φ2,.v (.int n),.v (.str st),.e,.e,.e,.e]=some (.nx [.io φ2,.v (.int n),.v (.str st),.o (.lst []),.e,.e,.e])/\d8 φ2/\st.length<=4/\Lw st) /\
   (∀st φ2,d8 φ2->st.length<=4->Lw st->∃(xs:List Str)(φ':D)(o4 o5 o6:Sl),R [.io φ2,.v (.int n),.v (.str st),.o (.lst []),.e,.e,.e]=some (.rt (.s 3) [.io φ',.v (.int n),.v (.str st),.o (.lst (xs.map D.str)),o4,o5,o6])/\(xs.length:Int)=n/\(∀x∈xs,Nm x)/\xs.Nodup/\d8 φ'):=by
  refine⟨_,_,_,_,rfl,?_,?_⟩
  ·by_cases c:d=0
   ·subst c;obtain⟨d2,φ2,e2,d20,d21,f2⟩:=dw (n:=4) f1 (by decide) (by decide)
    obtain⟨x,φ3,e3,hx,lx,f3⟩:=kn (k:=1+d2) f2 (by lia) (by lia)
    refine⟨x,φ3,rfl,?_,rfl,f3,by lia,lx⟩
    refine iI (s:=[.io φ1,.v (.int n),.v (.str ""),.e,.e,.e,.e]) (aN (aC (cR rfl rfl rfl rfl rfl rfl e1) rfl rfl rfl rfl) rfl) ?_;exact dW (cR rfl rfl (ay (aC rfl (cR rfl rfl rfl rfl rfl rfl e2) rfl rfl rfl) rfl) rfl rfl rfl e3) rfl
   ·refine⟨"",φ1,rfl,?_,rfl,f1,by decide +kernel,zG⟩
    have t:decide (V.int d=V.int 0)=false:=decide_eq_false fun z=>c (V.int.inj z);exact dM (s:=[.io φ1,.v (.int n),.v (.str ""),.e,.e,.e,.e]) (eX (b:=decide (V.int d=V.int 0)) (aN (aC (cR rfl rfl rfl rfl rfl rfl e1) rfl rfl rfl rfl) rfl) t) rfl
  ·intro st φ2 f2 hst lst
   have lp:∀(fg:FG)(B:FS),fg=gN 4->(∀(φ':D)(xs:List Str)(k:D)(o5 o6:Sl),d8 φ'->xs.length<=200->(∀x∈xs,Nm x)->xs.Nodup->xs.length<=110->o5.isIo=false->o6.isIo=false ->
     ∃φ2 x o6',B [.io φ',.v (.int n),.v (.str st),.o (.lst (xs.map D.str)),.v k,o5,o6]=some (.nx [.io φ2,.v (.int n),.v (.str st),.o (.lst ((xs++[x]).map D.str)),.v k,.v (.str x),.v o6'])/\d8 φ2/\Nm x/\x∉xs) ->
     ∃(xs:List Str)(φ':D)(o4 o5 o6:Sl),aS (jx (rO (ae (ai 1) am)) fg B) (bE (ai 3)) [.io φ2,.v (.int n),.v (.str st),.o (.lst []),.e,.e,.e]=some (.rt (.s 3) [.io φ',.v (.int n),.v (.str st),.o (.lst (xs.map D.str)),o4,o5,o6])/\(xs.length:Int)=n/\(∀x∈xs,Nm x)/\xs.Nodup/\d8 φ':=by
    intro fg B hfg hB;subst hfg;obtain⟨sf,e,φ',xs,o4,o5,o6,rfl,hf,hl,hx,nd,_⟩:=sh (fg:=gN 4) (B:=B) (rng 0 n.toNat) (fun gone s=>∃(φ':D)(xs:List Str)(o4 o5 o6:Sl),s=[.io φ',.v (.int n),.v (.str st),.o (.lst (xs.map D.str)),o4,o5,o6]/\d8 φ'/\xs.length=gone.length/\(∀x∈xs,Nm x)/\xs.Nodup/\o4.isIo=false/\o5.isIo=false/\o6.isIo=false)
     (fun gone x rest s ha zz8=>by
      obtain⟨φ',xs,o4,o5,o6,hs,hf,hl,hx,nd,q4,q5,q6⟩:=zz8;subst hs;have hg:=congrArg List.length ha;rw[fQ,Xa,Qd]at hg;obtain⟨φ3,y,o6',eB,f3,ny,hy⟩:=hB φ' xs x o5 o6 hf (by lia) hx nd (by lia) q5 q6
      refine⟨_,_,b7 rfl q4,eB,φ3,xs++[y],.v x,.v (.str y),.v o6',rfl,f3,by simp[hl],fun z hz=>?_,?_,rfl,rfl,rfl⟩
      ·rcases Xc.mp hz with w|w
       ·exact hx z w
       ·have:z=y:=by simpa using w
        rw[this];exact ny
      ·rw[Qh]
       exact⟨nd,by simp,fun a ha b hb e=>by
        have:b=y:=by simpa using hb
        subst this;subst e;exact hy ha⟩) (rng 0 n.toNat) [] [.io φ2,.v (.int n),.v (.str st),.o (.lst []),.e,.e,.e] rfl ⟨φ2,[],.e,.e,.e,rfl,f2,rfl,fun x hx=>(by cases hx),List.nodup_nil,rfl,rfl,rfl⟩
    rw[fQ]at hl;exact⟨xs,φ',o4,o5,o6,az (f7 (jk rfl rfl ⟨by lia,by lia⟩) e) rfl,by lia,hx,nd,hf⟩
   refine lp _ _ rfl ?_;intro φ' xs k o5 o6 hf _ hx nd hl q5 q6;obtain⟨x,φ3,e3,nx,f3⟩:=BL hf hst lst;obtain⟨sf,ew,s',y,rfl,ny,hy⟩:=nM (f:=aH (fOp bIn (ai 5) (ai 3))) (B:=aS (bU (fOp oU (fOp bIx (fC (.str "abcdefghijklmnopqrstuvwxyz")) (fOp nF (ai 6) (fC (.int 26)))) (fOp cS (fC (.int 1)) (fOp t5 (ai 6) (fC (.int 26))))) 5) (bU (fOp cS (ai 6) (fC (.int 1))) 6))
    (fun m s=>∃(j:Nat)(x:Str),s=[.io φ3,.v (.int n),.v (.str st),.o (.lst (xs.map D.str)),.v k,.v (.str x),.v (.int j)]/\Nm x/\m+j=xs.length+2/\j<=xs.length+1/\(∀i,i+1<j->word i∈xs)/\(j=0∨x=word (j-1)))
    (fun s=>∃(j:Nat)(x:Str),s=[.io φ3,.v (.int n),.v (.str st),.o (.lst (xs.map D.str)),.v k,.v (.str x),.v (.int j)]/\Nm x/\x∉xs)
    (by
     rintro m s ⟨j,x,rfl,nx,hm,hj,hw,hxj⟩;by_cases c:x∈xs
     ·right;have hall:∀i,i<j->word i∈xs:=fun i hi=>by
       rcases hxj with z|z
       ·lia
       ·by_cases e:i+1<j
        ·exact hw i e
        ·have:i=j-1:=by lia
         rw[this,← z];exact c
      have hle:=w9 hall;obtain⟨m',rfl⟩:∃m',m=m'+1:=⟨m-1,by lia⟩
      have d0:(0:Int)<=1+(j:Int) / 26:=Int.add_nonneg (by decide) (Int.ediv_nonneg (Int.natCast_nonneg j) (by decide))
      have d1:1+(j:Int) / 26<=1000:=Int.le_trans (Int.add_le_add_left (Int.ediv_le_self 26 (Int.natCast_nonneg j)) 1) (by lia)
      refine⟨_,[.io φ3,.v (.int n),.v (.str st),.o (.lst (xs.map D.str)),.v k,.v (.str (word j)),.v (.int ((j+1:Nat):Int))],m',eX (aN (aC rfl rfl rfl rfl CC) rfl) (decide_eq_true c),?_,Qm _,j+1,word j,rfl,BI (by lia),by lia,Nat.succ_le_succ hle,fun i hi=>hall i (by lia),.inr rfl⟩
      refine az (s:=[.io φ3,.v (.int n),.v (.str st),.o (.lst (xs.map D.str)),.v k,.v (.str (word j)),.v (.int j)]) (dW (aC (aC rfl rfl rfl rfl (ix_str (by decide +kernel) (EC j))) (aC rfl rfl rfl rfl rfl) rfl rfl (Bk ⟨d0,d1,(by show 1<=1000;decide)⟩)) rfl) ?_
      rfl
     ·left
      exact⟨_,eX (aN (aC rfl rfl rfl rfl CC) rfl) (decide_eq_false c),j,x,rfl,nx,c⟩)
    200 (xs.length+2) [.io φ3,.v (.int n),.v (.str st),.o (.lst (xs.map D.str)),.v k,.v (.str x),.v (.int 0)] (by lia) ⟨0,x,rfl,nx,rfl,Wh _,fun i hi=>absurd hi (by lia),.inl rfl⟩
   refine⟨φ3,y,.int s',?_,f3,ny,hy⟩;refine az (dW (cR rfl rfl rfl rfl rfl rfl e3) (b7 rfl q5)) ?_;refine az (dW (x:=.int 0) rfl (b7 rfl q6)) ?_;refine az ew ?_;refine dX (mE rfl rfl rfl rfl rfl rfl rfl (gi (by rw[Ya];lia)) ?_)
   rw[Vc];rfl
 obtain⟨A,B,C,R,eF,⟨st,φ2,eA,eB,eC,f2,hst,lst⟩,hR⟩:=sp;obtain⟨xs,φ',o4,o5,o6,eR,hl,hx,nd,hf⟩:=hR st φ2 f2 hst lst;refine⟨xs,φ',?_,hl,hx,nd,hf⟩;refine cN (o:=.rt (.s 3) [.io φ',.v (.int n),.v (.str st),.o (.lst (xs.map D.str)),o4,o5,o6]) rfl ?_ rfl;rw[eF];exact az eA (az eB (az eC eR))
theorem vW{φ:D}{xs:List D}(hφ:d8 φ)(hx:xs.length<=200):∃(ys:List D)(φ':D),d7 φ [.lst xs]=some ((.lst ys,true),φ')/\ys.Perm xs/\d8 φ':=by
 obtain⟨sf,ew,ts,φ',rfl,pm,hf⟩:=nM (f:=aH (fOp bNe (ai 2) (cX am))) (B:=dR (fM isL cH 3 (ae (fM isL qz 2 (ae (fIO bo 0 (ae (fCB eU (ae (ai 2) am)) am)) am)) am)))
  (fun m s=>∃(ls ts:List D)(φ':D),s=[.io φ',.v (.lst xs),.o (.lst ls),.o (.lst ts)]/\d8 φ'/\(ts++ls).Perm xs/\m=ls.length)
  (fun s=>∃(ts:List D)(φ':D),s=[.io φ',.v (.lst xs),.o (.lst []),.o (.lst ts)]/\ts.Perm xs/\d8 φ')
  (by
   rintro m s ⟨ls,ts,φ',rfl,hf,pm,rfl⟩;have hlen:ts.length+ls.length=xs.length:=by have:=pm.length_eq;rw[Xa]at this;exact this
   cases ls with
   | nil =>
    rw[Ve]at pm;exact .inl ⟨_,rfl,ts,φ',rfl,pm,hf⟩
   | cons y lr =>
    right;have hl0:(y::lr).length=lr.length+1:=rfl;obtain⟨d,φ2,e,d0,d1,f2⟩:=dw (n:=((y::lr).length:Int)) hf (by lia) (by lia)
    have hk:d.toNat<(y::lr).length:=by lia
    refine⟨_,[.io φ2,.v (.lst xs),.o (.lst ((y::lr).eraseIdx d.toNat)),.o (.lst (ts++[(y::lr)[d.toNat]]))],((y::lr).eraseIdx d.toNat).length,rfl,?_,?_,_,_,φ2,rfl,f2,?_,rfl⟩
    ·exact dX (mE rfl rfl rfl (ay (mE rfl rfl rfl (ay (cR rfl rfl rfl rfl rfl rfl e) rfl) rfl rfl rfl (zN d0 d1 (by lia) hk)) rfl) rfl rfl rfl (gi (by lia)))
    ·rw[List.length_eraseIdx_of_lt hk];lia
    ·refine List.Perm.trans ?_ pm;rw[Vd]
     exact List.Perm.append_left ts (n8 hk))
  300 xs.length [.io φ,.v (.lst xs),.o (.lst xs),.o (.lst [])] (by lia) ⟨xs,[],φ,rfl,hφ,List.Perm.refl _,rfl⟩
 refine⟨ts,φ',?_,pm,hf⟩;refine cN (o:=.rt (.s 3) [.io φ',.v (.lst xs),.o (.lst []),.o (.lst ts)]) rfl ?_ rfl;refine az (s:=[.io φ,.v (.lst xs),.o (.lst xs),.e]) rfl ?_;refine az (s:=[.io φ,.v (.lst xs),.o (.lst xs),.o (.lst [])]) rfl ?_;exact az ew rfl
noncomputable abbrev bdD(p:Bool×Str):D:=.str (bd p)
noncomputable abbrev aL:=Bool×List (Bool×Str)
noncomputable def kd(r:Bool):Str:=if r then "ring" else "open"
noncomputable def stD(s:aL):D:=.tup [.str (kd s.1),.tup (s.2.map bdD)]
theorem iX{p:Bool×Str}(h:Nm p.2):(bd p).length<=1000000:=by have:=(ut h).2;lia
theorem m9:∀(ss:List aL),(∀s∈ss,s.2≠[])->ss.length<=(ss.flatMap (·.2)).length
 | [],_=>Va _
 | s::r,h=>by
  have ih:=m9 r fun x hx=>h x (Xb _ hx);have hs:1<=s.2.length:=by
   cases e:s.2 with
   | nil=>exact absurd e (h s Zc)
   | cons _ _=>simp
  rw[Vf,Xa,Qd];lia
end K08
namespace VF
open PySem L2
theorem BM{n:Nat}{x:D}(h:x∈rng 0 n):∃i:Nat,i<n/\x=.int i:=by
 obtain⟨i,hi⟩:=Yl h;obtain⟨h1,h2⟩:=x9 hi;exact⟨i,h1,by rw[h2,Int.zero_add]⟩
theorem vX{α:Type}(xs:List α)(d:D):xs.map (fun _=>d)=List.replicate xs.length d:=by
 induction xs with
 | nil=>rfl
 | cons x r ih=>rw[Xf,ih];rfl
end VF
namespace K08
open PySem L2 VF VL
theorem xj{n:Nat}{u:D}(h:Dp (n+1) u):bM (mj (dU n)) 2 2 [u,u]=some (.bl true,false):=by
 have seqs:∀(ds:List D),ds.length<=1000000->(∀d∈ds,Dp n d)->∀(u:D),(∀i d,atI ds i=some d->bIx u (.int i)=some (d,false)) ->
   db (gN 0) dB (bc (dU n) (ae (fOp bIx (ai 1) (ai 0)) (ae (fOp bIx (ai 2) (ai 0)) am))) 1 (rng 0 ((ds.length:Int)).toNat) [.e,.v u,.v u]=some (List.replicate ds.length (D.bl true),[.e,.v u,.v u]):=fun ds hl hd u hu=>by
  have e:=pK (fg:=gN 0) (fc:=dB) (k:=1) (fe:=bc (dU n) (ae (fOp bIx (ai 1) (ai 0)) (ae (fOp bIx (ai 2) (ai 0)) am))) (fun _=>D.bl true) (rng 0 ((ds.length:Int)).toNat) [.e,.v u,.v u] (fun x hx=>by
   obtain⟨i,hi,rfl⟩:=BM hx;have hi':i<ds.length:=by lia
   have ha:atI ds (i:Int)=some ds[i]:=jf (Za hi');refine⟨[.v (.int i),.v u,.v u],[.v (.int i),.v u,.v u],.d (.bl true),[.v (.int i),.v u,.v u],[.v (.int i),.v u,.v u],rfl,rfl,?_,rfl,rfl⟩
   exact bx (ay (aC rfl rfl rfl rfl (hu _ _ ha)) (ay (aC rfl rfl rfl rfl (hu _ _ ha)) rfl)) rfl (nJ (hd _ (List.getElem_mem hi'))) rfl)
  rw[e,vX,fQ];have:((ds.length:Int)).toNat=ds.length:=by lia
  rw[this]
 cases h with
 | bl _ b=>cases b<;>rfl
 | int _ i =>
  refine bi (o:=.rt (.d (.bl true)) [.v (.int i),.v (.int i)]) rfl ?_ rfl;refine az (s:=[.v (.int i),.v (.int i)]) rfl (az (s:=[.v (.int i),.v (.int i)]) rfl (f6 (iI (s:=[.v (.int i),.v (.int i)]) rfl ?_)));refine aZ (nK (s:=[.v (.int i),.v (.int i)]) rfl rfl (aC rfl rfl rfl rfl (z:=(.bl (decide (V.int i=V.int i)),false)) rfl ?_));rw[decide_eq_true rfl];rfl
 | str _ x =>
  refine bi (o:=.rt (.d (.bl true)) [.v (.str x),.v (.str x)]) rfl ?_ rfl;refine az (s:=[.v (.str x),.v (.str x)]) rfl (az (s:=[.v (.str x),.v (.str x)]) rfl (az (s:=[.v (.str x),.v (.str x)]) rfl (f6 (iI (s:=[.v (.str x),.v (.str x)]) rfl ?_))));refine aZ (nK (s:=[.v (.str x),.v (.str x)]) rfl rfl (aC rfl rfl rfl rfl (z:=(.bl (decide (V.str x=V.str x)),false)) rfl ?_));rw[decide_eq_true rfl];rfl
 | @tup _ ds hl hd =>
  refine bi (o:=.rt (.d (.bl true)) [.v (.tup ds),.v (.tup ds)]) rfl ?_ rfl;refine az (s:=[.v (.tup ds),.v (.tup ds)]) rfl (az (s:=[.v (.tup ds),.v (.tup ds)]) rfl (az (s:=[.v (.tup ds),.v (.tup ds)]) rfl (az (s:=[.v (.tup ds),.v (.tup ds)]) rfl (az (s:=[.v (.tup ds),.v (.tup ds)]) rfl ?_))));refine aZ (nK (s:=[.v (.tup ds),.v (.tup ds)]) (r:=.d (.bl (decide (V.int ds.length=V.int ds.length)))) rfl (by rw[decide_eq_true rfl];rfl) ?_)
  refine bH (ay (cY (jk (j:=(ds.length:Int)) rfl rfl ⟨by lia,by lia⟩) (by
   show(true&&decide ((rng 0 ((ds.length:Int)).toNat).length<=1000000))=true
   rw[fQ,decide_eq_true (by lia)];rfl) (seqs ds hl hd (.tup ds) fun i d h=>VF.ix_tup h)) rfl) rfl (nN _)
 | @lst _ ds hl hd =>
  refine bi (o:=.rt (.d (.bl true)) [.v (.lst ds),.v (.lst ds)]) rfl ?_ rfl;refine az (s:=[.v (.lst ds),.v (.lst ds)]) rfl (az (s:=[.v (.lst ds),.v (.lst ds)]) rfl (az (s:=[.v (.lst ds),.v (.lst ds)]) rfl (az (s:=[.v (.lst ds),.v (.lst ds)]) rfl (az (s:=[.v (.lst ds),.v (.lst ds)]) rfl ?_))));refine aZ (nK (s:=[.v (.lst ds),.v (.lst ds)]) (r:=.d (.bl (decide (V.int ds.length=V.int ds.length)))) rfl (by rw[decide_eq_true rfl];rfl) ?_)
  refine bH (ay (cY (jk (j:=(ds.length:Int)) rfl rfl ⟨by lia,by lia⟩) (by
   show(true&&decide ((rng 0 ((ds.length:Int)).toNat).length<=1000000))=true
   rw[fQ,decide_eq_true (by lia)];rfl) (seqs ds hl hd (.lst ds) fun i d h=>gh h)) rfl) rfl (nN _)
end K08
namespace VF
open PySem L2
theorem zP{n:Nat}{d:D}:∀(es:List D),CA n (d::es)->Srt n es->∃fs:List D,fs.Perm (d::es)/\Srt n fs
 | [],_,_=>⟨[d],List.Perm.refl _,List.pairwise_singleton _ _⟩
 | e::es,h,s=>by
  obtain⟨s1,s2⟩:=Yh.mp s;cases c:ltN n e d with
  | true =>
   have up:∀x∈d::es,x∈d::e::es:=fun x hx=>by
    rcases Ze.mp hx with m|m
    ·rw[m];exact Zc
    ·exact Xb _ (Xb _ m)
   obtain⟨fs,p,q⟩:=zP (n:=n) (d:=d) es (fun a ha b hb=>h a (up a ha) b (up b hb)) s2;refine⟨e::fs,(p.cons e).trans (List.Perm.swap d e es),Yh.mpr ⟨fun f hf=>?_,q⟩⟩;rcases Ze.mp (p.mem_iff.mp hf) with m|m
   ·rw[m];exact qH n e d c
   ·exact s1 f m
  | false =>
   refine⟨d::e::es,List.Perm.refl _,Yh.mpr ⟨fun b hb=>?_,s⟩⟩;rcases Ze.mp hb with m|m
   ·rw[m];exact c
   ·cases k:ltN n b d with
    | false=>rfl
    | true =>
     rcases h.neg (a:=b) (b:=e) (c:=d) (by simp[m]) (by simp) (by simp) k with z|z
     ·rw[s1 b m]at z;cases z
     ·rw[c]at z;cases z
theorem zQ{n:Nat}:∀(ds:List D),CA n ds->∃es:List D,es.Perm ds/\Srt n es
 | [],_=>⟨[],List.Perm.refl _,List.Pairwise.nil⟩
 | d::ds,h=>by
  obtain⟨es,p,q⟩:=zQ ds fun a ha b hb=>h a (Xb _ ha) b (Xb _ hb);have pd:(d::es).Perm (d::ds):=p.cons d;obtain⟨fs,p2,q2⟩:=zP (n:=n) (d:=d) es (fun a ha b hb=>h a (pd.mem_iff.mp ha) b (pd.mem_iff.mp hb)) q;exact⟨fs,p2.trans pd,q2⟩
theorem ml{n:Nat}{ds es:List D}(h:CA n ds)(p:ds.Perm es):dZ n ds=dZ n es:=by
 obtain⟨fs,p1,q⟩:=zQ ds h;rw[← gX h p1 q];exact gX (fun a ha b hb=>h a (p.mem_iff.mpr ha) b (p.mem_iff.mpr hb)) (p1.trans p) q
end VF
namespace K08
open PySem L2 VF VL
noncomputable abbrev End:=Str×Int
noncomputable def eD(e:End):D:=.tup [.str e.1,.int e.2]
noncomputable abbrev Jnt:=List End
noncomputable def jD(j:Jnt):D:=.tup (j.map eD)
theorem vY(n:Nat)(e:End):Pl (n+2) (eD e):=.tup fun d hd=>by
 rcases Ze.mp hd with rfl|hd
 ·exact .str _ _
 ·obtain rfl:=Wb.mp hd;exact .int _ _
theorem CQ(n:Nat)(j:Jnt):Pl (n+3) (jD j):=.tup fun d hd=>by
 obtain⟨e,_,rfl⟩:=Qc.mp hd;exact vY n e
noncomputable def unE:D->End
 | .tup [.str n,.int i]=>(n,i)
 | _=>(Str.empty,0)
noncomputable def unJ:D->Jnt
 | .tup es=>es.map unE
 | _=>[]
theorem EG(e:End):unE (eD e)=e:=rfl
theorem zR(j:Jnt):unJ (jD j)=j:=by
 show(j.map eD).map unE=j;rw[Xg];exact List.map_id' j
theorem CS(n:Nat)(a b:End):Cp (n+2) (eD a) (eD b):=by
 intro i x y e1 e2
 match i,e1,e2 with
 | 0,e1,e2 =>
  have q1:D.str a.1=x:=by simpa using e1
  have q2:D.str b.1=y:=by simpa using e2
  subst q1 q2;trivial
 | 1,e1,e2 =>
  have q1:D.int a.2=x:=by simpa using e1
  have q2:D.int b.2=y:=by simpa using e2
  subst q1 q2;trivial
 | i+2,e1,_=>simp at e1
theorem Gs(n:Nat)(a b:Jnt):Cp (n+3) (jD a) (jD b):=by
 intro i x y e1 e2;rw[Wc]at e1 e2;obtain⟨c,_,rfl⟩:=Xd.mp e1;obtain⟨d,_,rfl⟩:=Xd.mp e2;exact CS n c d
noncomputable section
noncomputable def bR(xs:List End):List End:=(dZ 40 (xs.map eD)).map unE
noncomputable def mI(xs:List Jnt):List Jnt:=(dZ 40 (xs.map jD)).map unJ
theorem Gu(xs:List End):CA 40 (xs.map eD):=fun a ha b hb=>by
 obtain⟨e,_,rfl⟩:=Qc.mp ha;obtain⟨e',_,rfl⟩:=Qc.mp hb;exact CS 38 e e'
theorem Gv(xs:List Jnt):CA 40 (xs.map jD):=fun a ha b hb=>by
 obtain⟨e,_,rfl⟩:=Qc.mp ha;obtain⟨e',_,rfl⟩:=Qc.mp hb;exact Gs 37 e e'
theorem bJ(xs:List End):dZ 40 (xs.map eD)=(bR xs).map eD/\(bR xs).Perm xs:=by
 obtain⟨ys,e,p⟩:=kY (f:=eD) (g:=unE) EG (nZ 40 (xs.map eD));have h:bR xs=ys:=by
  unfold bR;rw[e,Xg];exact List.map_id' ys
 rw[h];exact⟨e,p⟩
theorem p7(xs:List Jnt):dZ 40 (xs.map jD)=(mI xs).map jD/\(mI xs).Perm xs:=by
 obtain⟨ys,e,p⟩:=kY (f:=jD) (g:=unJ) zR (nZ 40 (xs.map jD));have h:mI xs=ys:=by
  unfold mI;rw[e,Xg,show(unJ ∘ jD)=id from funext zR,List.map_id]
 rw[h];exact⟨e,p⟩
theorem dI{xs ys:List End}(p:xs.Perm ys):bR xs=bR ys:=by
 unfold bR;rw[ml (Gu xs) (p.map eD)]
theorem ox{xs ys:List Jnt}(p:xs.Perm ys):mI xs=mI ys:=by
 unfold mI;rw[ml (Gv xs) (p.map jD)]
theorem gC{d:D}(xs:List End)(h0:d.seq=some (xs.map eD)):cx [d]=some (.lst ((bR xs).map eD),true):=by
 rw[← (bJ xs).1];unfold cx;dsimp only;rw[h0];dsimp only;refine if_pos ⟨fun x hx=>?_,Gu xs,⟨_,.tp (T:="str") fun d hd=>?_⟩⟩
 ·obtain⟨e,_,rfl⟩:=Qc.mp hx;exact vY 38 e
 ·obtain⟨e,_,rfl⟩:=Qc.mp hd;exact⟨_,_,rfl,fun z=>(by cases z),rfl⟩
theorem lQ{d:D}(xs:List Jnt)(hn:∀j∈xs,j≠[])(h0:d.seq=some (xs.map jD)):cx [d]=some (.lst ((mI xs).map jD),true):=by
 rw[← (p7 xs).1];unfold cx;dsimp only;rw[h0];dsimp only;refine if_pos ⟨fun x hx=>?_,Gv xs,⟨_,.tp (T:="tuple") fun d hd=>?_⟩⟩
 ·obtain⟨e,_,rfl⟩:=Qc.mp hx;exact CQ 37 e
 ·obtain⟨j,hj,rfl⟩:=Qc.mp hd;cases j with
  | nil=>exact absurd rfl (hn _ hj)
  | cons e r=>exact⟨eD e,r.map eD,rfl,fun z=>(by cases z),rfl⟩
end
end K08
namespace K08
open PySem L2 VF VL
theorem fz{t:Bool}{n:Str}(h:Nm n):b9 [bdD (t,n)]=some (.bl t,false):=by
 have e:b9 [bdD (t,n)]=some (.bl (Txt.startswith (bd (t,n)) minus),false):=rfl;rw[e,xc h]
theorem eI{t:Bool}{n:Str}(h:Nm n):bV [bdD (t,n)]=some (.str n,false):=by
 refine bi (o:=.rt (.d (.str n)) [.v (bdD (t,n))]) rfl ?_ rfl;cases t with
 | true =>
  refine aZ (kN (s:=[.v (bdD (true,n))]) (aN (bx rfl rfl (fz h) rfl) rfl) (pO rfl rfl rfl rfl (yO (iX h)) ?_));show Rs.d (D.str (Txt.slice (minus++n) (some 1) none))=_;rw[zJ]
 | false=>exact aZ (lY (s:=[.v (bdD (false,n))]) (aN (bx rfl rfl (fz h) rfl) rfl) rfl)
theorem uF{t:Bool}{n:Str}(h:Nm n):dG [bdD (t,n)]=some (bdD (!t,n),false):=by
 have e1:minus.length=1:=by decide +kernel
 refine bi (o:=.rt (.d (bdD (!t,n))) [.v (bdD (t,n))]) rfl ?_ rfl;cases t with
 | true=>exact aZ (kN (s:=[.v (bdD (true,n))]) (aN (bx rfl rfl (fz h) rfl) rfl) (bx rfl rfl (eI h) rfl))
 | false=>exact aZ (lY (s:=[.v (bdD (false,n))]) (aN (bx rfl rfl (fz h) rfl) rfl) (aC rfl rfl rfl rfl (vn (by
   have:=(ut (p:=(false,n)) h).2;show minus.length+(bd (false,n)).length<=_
   lia))))
noncomputable def leE(p:Bool×Str):End:=(p.2,if p.1 then 1 else 0)
noncomputable def riE(p:Bool×Str):End:=(p.2,if p.1 then 0 else 1)
theorem qZ{t:Bool}{n:Str}(h:Nm n):dH [bdD (t,n)]=some (eD (leE (t,n)),false):=by
 refine bi (o:=.rt (.d (eD (leE (t,n)))) [.v (bdD (t,n))]) rfl (aZ ?_) rfl;have h1:aH (bc b9 (ae (ai 0) am)) [.v (bdD (t,n))]=some (t,[.v (bdD (t,n))]):=aN (bx rfl rfl (fz h) rfl) rfl;refine cj (ay (bx rfl rfl (eI h) rfl) (ay (r:=.d (.int (if t then 1 else 0))) ?_ rfl)) rfl (by show 2<=1000000;decide)
 cases t with
 | true=>exact kN h1 rfl
 | false=>exact lY h1 rfl
theorem sW{t:Bool}{n:Str}(h:Nm n):dL [bdD (t,n)]=some (eD (riE (t,n)),false):=by
 have e:riE (t,n)=leE (!t,n):=by cases t<;>rfl
 rw[e];exact bi (o:=.rt (.d (eD (leE (!t,n)))) [.v (bdD (t,n))]) rfl (aZ (bq (ay (bx rfl rfl (uF h) rfl) rfl) rfl (qZ h))) rfl
theorem sX{a b:End}:eG [.tup [eD a,eD b]]=some (jD (bR [a,b]),false):=by
 refine bi (o:=.rt (.d (jD (bR [a,b]))) [.v (.tup [eD a,eD b])]) rfl (aZ (bH (ay (bH (ay rfl rfl) rfl (gC [a,b] rfl)) rfl) rfl rfl)) rfl
end K08
namespace K08
open PySem L2 VF VL VF22
noncomputable section
noncomputable def inn(ps:List (Bool×Str)):List Jnt:=(ps.zip (ps.drop 1)).map fun q=>bR [riE q.1,leE q.2]
theorem Gw(xs ys:List (Bool×Str)):List.zipWith pr (xs.map bdD) (ys.map bdD)=(xs.zip ys).map fun q=>pr (bdD q.1) (bdD q.2):=by
 rw[List.zipWith_map,List.zip,List.map_zipWith]
theorem zS{ps:List (Bool×Str)}(hn:∀p∈ps,Nm p.2)(hl:ps.length<=100)(hs:bSl (.tup (ps.map bdD)) (some 1) none=some (.tup ((ps.drop 1).map bdD),false)) :
  d6 [.tup (ps.map bdD)]=some (.lst ((inn ps).map jD),true):=by
 have ec:db (gT 2 (gsC (gN 0) (gsC (gN 1) gsN))) dB (bB eG (ae (dC (ae (bB dL (ae (ai 0) am)) (ae (bB dH (ae (ai 1) am)) am))) am)) 2 ((ps.zip (ps.drop 1)).map fun q=>pr (bdD q.1) (bdD q.2)) [.e,.e]=some ((inn ps).map jD,[.e,.e]):=by
  have:=cT (fg:=gT 2 (gsC (gN 0) (gsC (gN 1) gsN))) (fc:=dB) (fe:=bB eG (ae (dC (ae (bB dL (ae (ai 0) am)) (ae (bB dH (ae (ai 1) am)) am))) am)) (k:=2)
   (fun q:(Bool×Str)×(Bool×Str)=>pr (bdD q.1) (bdD q.2)) (fun q=>jD (bR [riE q.1,leE q.2])) [.e,.e] (ps.zip (ps.drop 1)) fun q hq=>by
    have m:=List.of_mem_zip hq;have n1:=hn q.1 m.1;have n2:=hn q.2 (List.mem_of_mem_drop m.2);refine⟨[.v (bdD q.1),.v (bdD q.2)],[.v (bdD q.1),.v (bdD q.2)],.d (jD (bR [riE q.1,leE q.2])),[.v (bdD q.1),.v (bdD q.2)],[.v (bdD q.1),.v (bdD q.2)],rfl,rfl,?_,rfl,rfl⟩;exact bq (ay (cj (ay (bq rfl rfl (sW n1)) (ay (bq rfl rfl (qZ n2)) rfl)) rfl (by show 2<=1000000;decide)) rfl) rfl sX
  rw[this,inn,Xg];rfl
 refine bi (o:=.rt (.f (.lst ((inn ps).map jD))) [.v (.tup (ps.map bdD))]) rfl (aZ (cY (s1:=[.v (.tup (ps.map bdD))]) (ds:=(ps.zip (ps.drop 1)).map fun q=>pr (bdD q.1) (bdD q.2)) ?_ ?_ ec)) rfl
 ·have e1:(ae (ai 0) (ae (fSl bSl (ai 0) (kL (fC (.int 1))) oNo) am)) (gP 1 [.tup (ps.map bdD)])=some (_,_):=ay rfl (ay (pO rfl rfl rfl rfl hs) rfl);show((ae (ai 0) (ae (fSl bSl (ai 0) (kL (fC (.int 1))) oNo) am)) (gP 1 [.tup (ps.map bdD)])).bind _=_;rw[e1,← Gw];rfl
 ·show(true&&decide (((ps.zip (ps.drop 1)).map fun q=>pr (bdD q.1) (bdD q.2)).length<=1000000))=true;rw[Ya,List.length_zip,decide_eq_true (by lia)];rfl
end
end K08
namespace K08
open PySem L2 VF VL
theorem BN{d:D}{ds:List D}:bSl (.tup (d::ds)) (some 1) none=some (.tup ds,false):=by
 have h:=uf (d::ds) (some 1) none;have e1:wN (.tup (d::ds)) (some 1) none=none:=rfl;have c:¬ (HT.sIx (d::ds).length 0 (some 1)=0/\HT.sIx (d::ds).length (d::ds).length none=(d::ds).length):=fun z=>by
  have m:min 1 (d::ds).length=0:=(HT.sIx_nat (d::ds).length 0 1).symm.trans z.1;rw[Qd]at m;lia
 have e2:mC (.tup (d::ds)) (some 1) none=some (.tup (cutD (d::ds) (some 1) none),false):=by simp only[mC,if_neg c]
 have e3:cutD (d::ds) (some 1) none=ds:=sv (i:=1) (by rw[Qd];lia)
 rw[e3]at e2;show orS wN (orS mC yw) _ _ _=_;simp only[orS,e1,e2]
end K08
namespace VF
open PySem L2
theorem kr{fa:FA}{st s1 s2:En}{rs:List Rs}{ds:List D}(h1:fa st=some (rs,s1))(h2:ef rs s1=some (ds,s2))(h3:ds.length<=1000000):cX fa st=some (.f (.lst ds),s2):=by
 simp only[cX,h1,h2,Qb];rw[if_pos h3]
theorem oy{fa:FE}{st s:En}{r:Rs}{b:D->Option Rz}{d:D}{z:Rz}{r':Rs}(h1:fa st=some (r,s))(h2:cont s r=some d)(h3:b d=some z)(hz:mk z=r':=by rfl):fUn b fa st=some (r',s):=by
 simp only[fUn,h1,h2,h3,hz,Qb]
theorem q0{a b:List D}(h:a.length+b.length<=1000000):cS (.lst a) (.lst b)=some (.lst (a++b),true):=by
 have e1:rR (.lst a) (.lst b)=none:=rfl;have e2:rV (.lst a) (.lst b)=none:=rfl;have e3:yn (.lst a) (.lst b)=some (.lst (a++b),true):=by simp only[yn];rw[if_pos h]
 unfold cS orD;rw[e1,e2,e3]
end VF
namespace K08
open PySem L2 VF VL VF22
theorem q8{l:List D}{n:Nat}(hl:l.length<=n)(hn:n<=1000000:=by decide){b:Bool}(hb:b=true):(b&&decide (l.length<=1000000))=true:=by rw[hb,decide_eq_true (by lia)];rfl
theorem ia{α:Type}{f:α->D}{xs:List α}{i:Nat}{x:α}(h:xs[i]?=some x):atI (xs.map f) (i:Int)=some (f x):=jf (xs:=xs.map f) (j:=i) (by rw[Wc,h];rfl)
theorem jv{α:Type}{f:α->D}{xs:List α}{x:α}(h:xs[xs.length-1]?=some x):atI (xs.map f) (-1)=some (f x):=by
 have hl:=(Yb.mp h).1;unfold atI ixN;rw[if_neg (by lia),if_pos (by rw[Ya];lia)]
 show(xs.map f)[(-1+((xs.map f).length:Int)).toNat]?=_;rw[Ya,show(-1+(xs.length:Int)).toNat=xs.length - 1 by lia,Wc,h];rfl
noncomputable section
noncomputable abbrev z0:Bool×Str:=(false,Str.empty)
noncomputable def uG(s:aL):List Jnt:=if s.1 then [bR [leE (s.2.headD z0),riE (s.2.getLastD z0)]] else [[leE (s.2.headD z0)],[riE (s.2.getLastD z0)]]
noncomputable def sj(s:aL):List Jnt:=inn s.2++uG s
theorem fT{ps:List (Bool×Str)}(h:ps≠[]):ps[0]?=some (ps.headD z0):=by
 cases ps with
 | nil=>exact absurd rfl h
 | cons p r=>rfl
theorem fU{ps:List (Bool×Str)}(h:ps≠[]):ps[ps.length-1]?=some (ps.getLastD z0):=by
 rw[← List.getLast?_eq_getElem?,List.getLastD_eq_getLast?];cases ps with
 | nil=>exact absurd rfl h
 | cons p r=>rw[List.getLast?_cons];rfl
theorem kZ(ps:List (Bool×Str)):(inn ps).length=ps.length-1:=by
 unfold inn;rw[Ya,List.length_zip,Wj];lia
theorem EH{s:aL}(h:s.2≠[]):(sj s).length<=s.2.length+1:=by
 have:=Vg.mpr h;unfold sj uG;rw[Xa,kZ];split<;>(simp only[Qd,Zh];lia)
theorem Gx(a b:End):(bR [a,b]).length=2:=(bJ [a,b]).2.length_eq
theorem zT{s:aL}{j:Jnt}(h:j∈sj s):j≠[]:=by
 have two:∀a b:End,bR [a,b]≠[]:=fun a b z=>by have:=Gx a b;rw[z]at this;cases this
 unfold sj at h;rcases Xc.mp h with h|h
 ·unfold inn at h;obtain⟨q,_,rfl⟩:=Qc.mp h;exact two _ _
 ·unfold uG at h;split at h
  ·obtain rfl:=Wb.mp h;exact two _ _
  ·simp at h;rcases h with rfl|rfl<;>simp
theorem xk{s:aL}(hs:s.2≠[])(hn:∀p∈s.2,Nm p.2)(hl:s.2.length<=100):dr [stD s]=some (.lst ((sj s).map jD),true):=by
 obtain⟨r,ps⟩:=s;dsimp only at hs hn hl;have h0:=fT hs;have hL:=fU hs;have n0:=hn _ (Wa h0);have nl:=hn _ (Wa hL);generalize e0:ps.headD z0=p0 at h0 n0;generalize eL:ps.getLastD z0=pl at hL nl;have i0:bIx (.tup (ps.map bdD)) (.int 0)=some (bdD p0,false):=VF.ix_tup (ia (i:=0) h0);have il:bIx (.tup (ps.map bdD)) (.int (-1))=some (bdD pl,false):=VF.ix_tup (jv hL);have hsl:bSl (.tup (ps.map bdD)) (some 1) none=some (.tup ((ps.drop 1).map bdD),false):=by
  cases ps with
  | nil=>exact absurd rfl hs
  | cons p q=>exact BN
 have hi:=zS hn hl hsl;have hll:(inn ps).length<=100:=by rw[kZ];lia
 have eo:uG (r,ps)=if r then [bR [leE p0,riE pl]] else [[leE p0],[riE pl]]:=by unfold uG;dsimp only;rw[e0,eL]
 unfold sj;rw[eo];dsimp only;refine bi (o:=.rt (.f (.lst ((inn ps++(if r then [bR [leE p0,riE pl]] else [[leE p0],[riE pl]])).map jD))) [.v (stD (r,ps)),.v (.tup (ps.map bdD)),.v (eD (leE p0)),.v (eD (riE pl)),.o (.lst ((if r then [bR [leE p0,riE pl]] else [[leE p0],[riE pl]]).map jD))]) rfl ?_ rfl;refine az (s:=[.v (stD (r,ps)),.v (.tup (ps.map bdD)),.e,.e,.e]) (dW rfl rfl) ?_;refine az (s:=[.v (stD (r,ps)),.v (.tup (ps.map bdD)),.v (eD (leE p0)),.e,.e]) (dW (bq (ay (aC rfl rfl rfl rfl i0) rfl) rfl (qZ (t:=p0.1) (n:=p0.2) n0)) rfl) ?_;refine az (s:=[.v (stD (r,ps)),.v (.tup (ps.map bdD)),.v (eD (leE p0)),.v (eD (riE pl)),.e]) (dW (bq (ay (aC rfl (oy rfl rfl rfl) rfl rfl il) rfl) rfl (sW (t:=pl.1) (n:=pl.2) nl)) rfl) ?_;have fin:∀os:List Jnt,os.length<=2->(bE (fOp cS (bB d6 (ae (ai 1) am)) (ai 4))) [.v (stD (r,ps)),.v (.tup (ps.map bdD)),.v (eD (leE p0)),.v (eD (riE pl)),.o (.lst (os.map jD))]=some (.rt (.f (.lst ((inn ps++os).map jD))) [.v (stD (r,ps)),.v (.tup (ps.map bdD)),.v (eD (leE p0)),.v (eD (riE pl)),.o (.lst (os.map jD))]):=fun os ho=>by
  refine aZ (aC (bq rfl rfl hi) rfl rfl rfl (q0 ?_) ?_)
  ·rw[Ya,Ya];lia
  ·rw[Vc];rfl
 cases r with
 | true =>
  refine az (gy (lY (s:=[.v (stD (true,ps)),.v (.tup (ps.map bdD)),.v (eD (leE p0)),.v (eD (riE pl)),.e]) rfl (kr (ay (bq (ay (cj rfl rfl (by show 2<=1000000;decide)) rfl) rfl sX) rfl) rfl (by show 1<=1000000;decide))) rfl) ?_
  exact fin [bR [leE p0,riE pl]] (by show 1<=2;decide)
 | false =>
  refine az (gy (kN (s:=[.v (stD (false,ps)),.v (.tup (ps.map bdD)),.v (eD (leE p0)),.v (eD (riE pl)),.e]) rfl (kr (ay (cj rfl rfl (by show 1<=1000000;decide)) (ay (cj rfl rfl (by show 1<=1000000;decide)) rfl)) rfl (by show 2<=1000000;decide))) rfl) ?_
  exact fin [[leE p0],[riE pl]] (by show 2<=2;decide)
theorem q9:∀{ss:List aL},(∀s∈ss,s.2≠[])->(ss.flatMap sj).length<=2*(ss.flatMap (·.2)).length
 | [],_=>Va _
 | s::r,h=>by
  have ih:=q9 fun x hx=>h x (Xb _ hx);have h1:=h s Zc;have h2:=EH h1;have:=Vg.mpr h1;rw[Vf,Vf,Xa,Xa];lia
noncomputable def jo(ss:List aL):List Jnt:=mI (ss.flatMap sj)
theorem xn{ss:List aL}(hne:∀s∈ss,s.2≠[])(hn:∀s∈ss,∀p∈s.2,Nm p.2)(hl:(ss.flatMap (·.2)).length<=100):iP [.tup (ss.map stD)]=some (.tup ((jo ss).map jD),false):=by
 have hj:=q9 hne;obtain⟨sf,e,s2,rfl,q2⟩:=cZ (fg:=gN 2) (B:=dR (fM isL mU 1 (ae (bB dr (ae (ai 2) am)) am))) stD ss
  (fun gone st=>∃s2:Sl,st=[.v (.tup (ss.map stD)),.o (.lst ((gone.flatMap sj).map jD)),s2]/\s2.isIo=false)
  (by
   rintro gone s rest st ha ⟨s2,rfl,q2⟩;have hm:s∈ss:=by rw[ha];simp
   have hsl:s.2.length<=100:=by
    have:=congrArg (fun l=>(List.flatMap (fun x:aL=>x.2) l).length) ha;simp only[Vh,Vf,Xa]at this;lia
   have hgl:(gone.flatMap sj).length+(sj s).length<=200:=by
    have:=congrArg (fun l=>(List.flatMap sj l).length) ha;simp only[Vh,Vf,Xa]at this;lia
   refine⟨_,[.v (.tup (ss.map stD)),.o (.lst (((gone++[s]).flatMap sj).map jD)),.v (stD s)],b7 rfl q2,?_,.v (stD s),rfl,rfl⟩;refine dX (mE rfl rfl rfl (ay (bq rfl rfl (xk (hne s hm) (hn s hm) hsl)) rfl) rfl rfl rfl (Bt ?_) ?_)
   ·rw[Ya,Ya];lia
   ·rw[Vh,List.flatMap_singleton,Vc];rfl)
  ss [] [.v (.tup (ss.map stD)),.o (.lst []),.e] rfl ⟨.e,rfl,rfl⟩
 refine bi (o:=.rt (.d (.tup ((jo ss).map jD))) [.v (.tup (ss.map stD)),.o (.lst ((ss.flatMap sj).map jD)),s2]) rfl ?_ rfl;refine az rfl (az (f7 (iJ rfl rfl) e) (aZ (bH (ay (bH rfl rfl (lQ (ss.flatMap sj) (fun j hj=>?_) rfl)) rfl) rfl rfl)));obtain⟨s,_,h⟩:=List.mem_flatMap.mp hj;exact zT h
end
end K08
namespace K08
open PySem L2 VF VL VF22
noncomputable section
noncomputable def cF(p:Bool×Str):D:=.tup [eD (leE p),eD (riE p)]
theorem BO{p:Bool×Str}(h:Nm p.2):fG [bdD p]=some (cF p,false):=by
 obtain⟨t,n⟩:=p;obtain⟨c,hc,hcm⟩:=zK (p:=(t,n)) h;refine bi (o:=.rt (.d (cF (t,n))) [.v (bdD (t,n))]) rfl ?_ rfl;cases t with
 | true =>
  have hs:bSl (bdD (true,n)) (some 1) none=some (.str n,false):=by
   rw[yO (iX h)];show some (D.str (Txt.slice (minus++n) (some 1) none),false)=_;rw[zJ]
  refine f6 (iI (s:=[.v (bdD (true,n))]) (eX (aN (aC (aC rfl rfl rfl rfl (ix_str (iX h) hc)) rfl rfl rfl rfl) rfl) (decide_eq_true (hcm.mpr rfl))) (aZ ?_));exact cj (ay (cj (ay (pO rfl rfl rfl rfl hs) rfl) rfl (by show 2<=1000000;decide)) (ay (cj (ay (pO rfl rfl rfl rfl hs) rfl) rfl (by show 2<=1000000;decide)) rfl)) rfl (by show 2<=1000000;decide)
 | false =>
  refine az (dM (s:=[.v (bdD (false,n))]) (eX (aN (aC (aC rfl rfl rfl rfl (ix_str (iX h) hc)) rfl rfl rfl rfl) rfl) (decide_eq_false fun z=>by cases (hcm.mp z))) rfl) (aZ ?_)
  exact cj (ay (cj rfl rfl (by show 2<=1000000;decide)) (ay (cj rfl rfl (by show 2<=1000000;decide)) rfl)) rfl (by show 2<=1000000;decide)
theorem zU{ps:List (Bool×Str)}(hp:∀p∈ps,Nm p.2):db (gN 0) dB (bB fG (ae (ai 0) am)) 1 (ps.map bdD) [.e]=some (ps.map cF,[.e]) :=
 cT (fg:=gN 0) (fc:=dB) (fe:=bB fG (ae (ai 0) am)) (k:=1) bdD cF [.e] ps fun p hpp=>⟨[.v (bdD p)],[.v (bdD p)],.d (cF p),[.v (bdD p)],[.v (bdD p)],rfl,rfl,bq rfl rfl (BO (hp p hpp)),rfl,rfl⟩
noncomputable def Jn(p q:Bool×Str):Jnt:=bR [riE p,leE q]
theorem zV{ps:List (Bool×Str)}{i:Nat}{a b:Bool×Str}(h1:ps[i]?=some a)(h2:ps[i+1]?=some b):(inn ps).take (i+1)=(inn ps).take i++[Jn a b]:=by
 rw[List.take_add_one];congr 1;unfold inn;rw[Wc];have:(ps.zip (ps.drop 1))[i]?=some (a,b):=by
  rw[List.getElem?_zip_eq_some];refine⟨h1,?_⟩;rw[Wf,Nat.add_comm];exact h2
 rw[this];rfl
theorem xo{S kd bs:D}{ps:List (Bool×Str)}(h1:1<=ps.length)(hl:ps.length<=100)(B:FS)
  (hB:B=dR (fM isL cH 1 (ae (fCB b8 (ae (fCB cx (ae (cX (ae (fOp bIx (fOp bIx (ai 4) (ai 5)) (fC (.int 1))) (ae (fOp bIx (fOp bIx (ai 4) (fOp cS (ai 5) (fC (.int 1)))) (fC (.int 0))) am))) am)) am)) am)))
  (js:List Jnt) (hj:js.length<=500) (s5:Sl) (q5:s5.isIo=false) :
  ∃(s5':Sl),ii (gN 5) B (rng 0 (ps.length-1)) [.v S,.o (.lst (js.map jD)),.v kd,.v bs,.o (.lst (ps.map cF)),s5]=some (.nx [.v S,.o (.lst ((js++inn ps).map jD)),.v kd,.v bs,.o (.lst (ps.map cF)),s5'])/\s5'.isIo=false:=by
 have e0:rng 0 (ps.length-1)=(List.range (ps.length-1)).map fun t:Nat=>D.int (t:Int):=by
  unfold rng;exact Xk fun t _=>by rw[Int.zero_add]
 rw[e0];obtain⟨sf,e,s5',rfl,q5'⟩:=cZ (fg:=gN 5) (B:=B) (fun t:Nat=>D.int (t:Int)) (List.range (ps.length-1))
  (fun gone st=>∃(s5':Sl),st=[.v S,.o (.lst ((js++(inn ps).take gone.length).map jD)),.v kd,.v bs,.o (.lst (ps.map cF)),s5']/\s5'.isIo=false)
  (by
   rintro gone x rest st ha ⟨s5',rfl,q5'⟩;have hx:x<ps.length-1:=Zm.mp (by rw[ha];simp)
   have hg:x=gone.length:=by
    have:=congrArg (fun l=>l[gone.length]?) ha;rw[List.getElem?_range (by have:=congrArg List.length ha;rw[List.length_range,Xa,Qd]at this;lia)]at this
    simpa using this.symm
   have a1:ps[x]?=some ps[x]:=Za (by lia)
   have a2:ps[x+1]?=some ps[x+1]:=Za (by lia)
   have i1:bIx (.lst (ps.map cF)) (.int (x:Int))=some (cF ps[x],false):=gh (ia a1);have i2:bIx (.lst (ps.map cF)) (.int ((x:Int)+1))=some (cF ps[x+1],false):=by
    have:=ia (f:=cF) a2;rw[Int.natCast_add]at this;exact gh this
   have ej:=gC (d:=.lst [eD (riE ps[x]),eD (leE ps[x+1])]) [riE ps[x],leE ps[x+1]] rfl;refine⟨_,[.v S,.o (.lst ((js++(inn ps).take (gone++[x]).length).map jD)),.v kd,.v bs,.o (.lst (ps.map cF)),.v (.int (x:Int))],b7 rfl q5',?_,.v (.int (x:Int)),rfl,rfl⟩;rw[hB];refine dX (mE rfl rfl rfl (ay (bH (ay (bH (ay (kr (ay (aC (aC rfl rfl rfl rfl i1) rfl rfl rfl rfl) (ay (aC (aC rfl (aC rfl rfl rfl rfl rfl) rfl rfl i2) rfl rfl rfl rfl) rfl)) rfl (by show 2<=1000000;decide)) rfl) rfl ej) rfl) rfl rfl) rfl) rfl rfl rfl (gi ?_) ?_)
   ·rw[Ya,Xa,Qk,kZ];lia
   ·rw[Xa,Qg,← hg,zV a1 a2,← Vd,Vc (l₁:=js++_)];rfl)
  (List.range (ps.length-1)) [] [.v S,.o (.lst (js.map jD)),.v kd,.v bs,.o (.lst (ps.map cF)),s5] rfl ⟨s5,by rw[Zh,List.take_zero,Ve],q5⟩
 rw[List.length_range,Vl (by rw[kZ];lia)]at e
 exact⟨s5',e,q5'⟩
theorem uH{ss:List aL}(hne:∀s∈ss,s.2≠[])(hn:∀s∈ss,∀p∈s.2,Nm p.2)(hl:(ss.flatMap (·.2)).length<=100):hU [.tup (ss.map stD)]=some (.tup ((jo ss).map jD),false):=by
 have hj:=q9 hne;have sp:∃B,g9=aS (bU (cX am) 1) (aS (jx (fIA (ai 0)) (VF.gT 2 (gsC (gN 2) (gsC (gN 3) gsN))) B) (bE (fCB b8 (ae (fCB cx (ae (ai 1) am)) am)))) /\
   ∀(S:D)(js:List Jnt)(s:aL)(s4 s5:Sl),s.2≠[]->(∀p∈s.2,Nm p.2)->s.2.length<=100->js.length<=300->s4.isIo=false->s5.isIo=false ->
    ∃(s4' s5':Sl),B [.v S,.o (.lst (js.map jD)),.v (.str (kd s.1)),.v (.tup (s.2.map bdD)),s4,s5]=some (.nx [.v S,.o (.lst ((js++sj s).map jD)),.v (.str (kd s.1)),.v (.tup (s.2.map bdD)),s4',s5'])/\s4'.isIo=false/\s5'.isIo=false:=by
  refine⟨_,rfl,fun S js s s4 s5 hs hp hsl hj q4 q5=>?_⟩;obtain⟨r,ps⟩:=s;dsimp only at hs hp hsl ⊢;have hps:1<=ps.length:=Vg.mpr hs;have cm:=zU hp;obtain⟨s5',e1,q5'⟩:=xo (S:=S) (kd:=.str (kd r)) (bs:=.tup (ps.map bdD)) hps hsl _ rfl js (by lia) s5 q5
  have hp0:=fT hs;have hpl:=fU hs;have i0:bIx (.lst (ps.map cF)) (.int 0)=some (cF (ps.headD z0),false):=gh (ia (i:=0) hp0);have il:bIx (.lst (ps.map cF)) (.int (-1))=some (cF (ps.getLastD z0),false):=gh (jv hpl);have len4:eU [.lst (ps.map cF)]=some (.int ps.length,false):=by
   show some (D.int ((ps.map cF).length:Nat),false)=_;rw[Ya]
  have esub:((ps.length:Int)-1).toNat=ps.length-1:=by lia
  have hil:(js++inn ps).length<=500:=by rw[Xa,kZ];lia
  cases r with
  | true =>
   have ej:=gC (d:=.lst [eD (riE (ps.getLastD z0)),eD (leE (ps.headD z0))]) [riE (ps.getLastD z0),leE (ps.headD z0)] rfl;have es:sj (true,ps)=inn ps++[bR [riE (ps.getLastD z0),leE (ps.headD z0)]]:=by
    show inn ps++[bR [leE (ps.headD z0),riE (ps.getLastD z0)]]=_;rw[dI (List.Perm.swap _ _ [])]
   refine⟨.o (.lst (ps.map cF)),s5',?_,rfl,q5'⟩;refine az (s:=[.v S,.o (.lst (js.map jD)),.v (.str (kd true)),.v (.tup (ps.map bdD)),.o (.lst (ps.map cF)),s5]) (gy (cY (s2:=[.e]) (iJ rfl rfl) (q8 (n:=100) (by rw[Ya];exact hsl) (by decide) rfl) cm) (b7 rfl q4)) ?_
   refine az (f7 (jk (j:=(ps.length:Int)-1) (ay (aC (bH rfl rfl len4) rfl rfl rfl rfl) rfl) rfl ⟨by lia,by lia⟩) (by rw[esub];exact e1)) ?_
   refine iI (s:=[.v S,.o (.lst ((js++inn ps).map jD)),.v (.str (kd true)),.v (.tup (ps.map bdD)),.o (.lst (ps.map cF)),s5']) rfl ?_;refine dX (mE rfl rfl rfl (ay (bH (ay (bH (ay (kr (ay (aC (aC rfl (oy rfl rfl rfl) rfl rfl il) rfl rfl rfl rfl) (ay (aC (aC rfl rfl rfl rfl i0) rfl rfl rfl rfl) rfl)) rfl (by show 2<=1000000;decide)) rfl) rfl ej) rfl) rfl rfl) rfl) rfl rfl rfl (gi ?_) ?_)
   ·rw[Ya];lia
   ·rw[es,← Vd,Vc (l₁:=js++inn ps)];rfl
  | false =>
   have es:sj (false,ps)=inn ps++[[leE (ps.headD z0)],[riE (ps.getLastD z0)]]:=rfl;refine⟨.o (.lst (ps.map cF)),s5',?_,rfl,q5'⟩;refine az (s:=[.v S,.o (.lst (js.map jD)),.v (.str (kd false)),.v (.tup (ps.map bdD)),.o (.lst (ps.map cF)),s5]) (gy (cY (s2:=[.e]) (iJ rfl rfl) (q8 (n:=100) (by rw[Ya];exact hsl) (by decide) rfl) cm) (b7 rfl q4)) ?_
   refine az (f7 (jk (j:=(ps.length:Int)-1) (ay (aC (bH rfl rfl len4) rfl rfl rfl rfl) rfl) rfl ⟨by lia,by lia⟩) (by rw[esub];exact e1)) ?_
   refine dM (s:=[.v S,.o (.lst ((js++inn ps).map jD)),.v (.str (kd false)),.v (.tup (ps.map bdD)),.o (.lst (ps.map cF)),s5']) rfl ?_;refine az (s:=[.v S,.o (.lst ((js++inn ps++[[leE (ps.headD z0)]]).map jD)),.v (.str (kd false)),.v (.tup (ps.map bdD)),.o (.lst (ps.map cF)),s5']) (dX (mE rfl rfl rfl (ay (cj (ay (aC (aC rfl rfl rfl rfl i0) rfl rfl rfl rfl) rfl) rfl (by show 1<=1000000;decide)) rfl) rfl rfl rfl (gi ?_) ?_)) ?_
   ·rw[Ya];lia
   ·rw[Vc (l₁:=js++inn ps)];rfl
   refine dX (mE rfl rfl rfl (ay (cj (ay (aC (aC rfl (oy rfl rfl rfl) rfl rfl il) rfl rfl rfl rfl) rfl) rfl (by show 1<=1000000;decide)) rfl) rfl rfl rfl (gi ?_) ?_)
   ·rw[Ya,Xa,Qg];lia
   ·rw[es,show js++(inn ps++[[leE (ps.headD z0)],[riE (ps.getLastD z0)]])=js++inn ps++[[leE (ps.headD z0)]]++[[riE (ps.getLastD z0)]] by simp,Vc (l₁:=js++inn ps++[[leE (ps.headD z0)]])];rfl
 obtain⟨B,eF,hB⟩:=sp;obtain⟨sf,e,s2,s3,s4,s5,rfl,q2,q3,q4,q5⟩:=cZ (fg:=VF.gT 2 (gsC (gN 2) (gsC (gN 3) gsN))) (B:=B) stD ss
  (fun gone st=>∃(s2 s3 s4 s5:Sl),st=[.v (.tup (ss.map stD)),.o (.lst ((gone.flatMap sj).map jD)),s2,s3,s4,s5]/\s2.isIo=false/\s3.isIo=false/\s4.isIo=false/\s5.isIo=false)
  (by
   rintro gone s rest st ha ⟨s2,s3,s4,s5,rfl,q2,q3,q4,q5⟩;have hm:s∈ss:=by rw[ha];simp
   have hsl:s.2.length<=100:=by
    have:=congrArg (fun l=>(List.flatMap (fun x:aL=>x.2) l).length) ha;simp only[Vh,Vf,Xa]at this;lia
   have hgl:(gone.flatMap sj).length<=200:=by
    have:=congrArg (fun l=>(List.flatMap sj l).length) ha;simp only[Vh,Vf,Xa]at this;lia
   obtain⟨s4',s5',eb,q4',q5'⟩:=hB (.tup (ss.map stD)) (gone.flatMap sj) s s4 s5 (hne s hm) (hn s hm) hsl (by lia) q4 q5
   refine⟨[.v (.tup (ss.map stD)),.o (.lst ((gone.flatMap sj).map jD)),.v (.str (kd s.1)),.v (.tup (s.2.map bdD)),s4,s5],_,?_,eb,.v (.str (kd s.1)),.v (.tup (s.2.map bdD)),s4',s5',by rw[Vh,List.flatMap_singleton],rfl,rfl,q4',q5'⟩
   show(if 2=2 then gsC (gN 2) (gsC (gN 3) gsN) [.str (kd s.1),.tup (s.2.map bdD)] _ else none)=_;rw[if_pos rfl];show(gN 2 (.str (kd s.1)) _).bind _=_;rw[show gN 2 (.str (kd s.1)) [.v (.tup (ss.map stD)),.o (.lst ((gone.flatMap sj).map jD)),s2,s3,s4,s5]=some [.v (.tup (ss.map stD)),.o (.lst ((gone.flatMap sj).map jD)),.v (.str (kd s.1)),s3,s4,s5] from b7 rfl q2];show(gN 3 (.tup (s.2.map bdD)) _).bind _=_;rw[show gN 3 (.tup (s.2.map bdD)) [.v (.tup (ss.map stD)),.o (.lst ((gone.flatMap sj).map jD)),.v (.str (kd s.1)),s3,s4,s5]=some [.v (.tup (ss.map stD)),.o (.lst ((gone.flatMap sj).map jD)),.v (.str (kd s.1)),.v (.tup (s.2.map bdD)),s4,s5] from b7 rfl q3]
   rfl)
  ss [] [.v (.tup (ss.map stD)),.o (.lst []),.e,.e,.e,.e] rfl ⟨.e,.e,.e,.e,rfl,rfl,rfl,rfl,rfl⟩
 refine bi (o:=.rt (.d (.tup ((jo ss).map jD))) [.v (.tup (ss.map stD)),.o (.lst ((ss.flatMap sj).map jD)),s2,s3,s4,s5]) rfl ?_ rfl;rw[eF];refine az rfl (az (f7 (iJ rfl rfl) e) (aZ (bH (ay (bH rfl rfl (lQ (ss.flatMap sj) (fun j hj=>?_) rfl)) rfl) rfl rfl)));obtain⟨s,_,h⟩:=List.mem_flatMap.mp hj;exact zT h
noncomputable abbrev Bd:=Bool×Str
theorem vZ(p q:Bd)(r:List Bd):inn (p::q::r)=Jn p q::inn (q::r):=rfl
theorem k0:∀(xs:List Bd)(y:Bd)(ys:List Bd),xs≠[]->inn (xs++y::ys)=inn xs++Jn (xs.getLastD z0) y::inn (y::ys)
 | [],_,_,h=>absurd rfl h
 | [x],y,ys,_=>rfl
 | x::x'::r,y,ys,_=>by
  have ih:=k0 (x'::r) y ys (by simp)
  show Jn x x'::inn (x'::r++y::ys)=Jn x x'::(inn (x'::r)++_);rw[ih];rfl
noncomputable def flp(p:Bd):Bd:=(!p.1,p.2)
theorem zW(p:Bd):leE (flp p)=riE p:=by obtain⟨t,n⟩:=p;cases t<;>rfl
theorem zX(p:Bd):riE (flp p)=leE p:=by obtain⟨t,n⟩:=p;cases t<;>rfl
theorem EI(p q:Bd):Jn (flp q) (flp p)=Jn p q:=by
 unfold Jn;rw[zX,zW];exact dI (List.Perm.swap _ _ [])
noncomputable def cq(ps:List Bd):List Bd:=ps.reverse.map flp
theorem lc(p:Bd)(r:List Bd):cq (p::r)=cq r++[flp p]:=by unfold cq;rw[List.reverse_cons,Vc];rfl
theorem iY{α:Type}(xs:List α)(x z:α):(xs++[x]).getLastD z=x:=by rw[List.getLastD_eq_getLast?];simp
theorem sY{p:Bd}{r:List Bd}:(cq (p::r)).getLastD z0=flp p:=by rw[lc,iY]
theorem EJ{p:Bd}{r:List Bd}:cq (p::r)≠[]:=by rw[lc];simp
theorem v0:∀ps:List Bd,inn (cq ps)=(inn ps).reverse
 | []=>rfl
 | [p]=>rfl
 | p::q::r=>by
  have ih:=v0 (q::r);rw[lc,k0 _ _ _ EJ,ih,sY,EI,vZ,List.reverse_cons];rfl
theorem sZ(ps:List Bd)(h:ps≠[]):(cq ps).headD z0=flp (ps.getLastD z0):=by
 obtain⟨r,p,rfl⟩:∃r p,ps=r++[p]:=⟨ps.dropLast,ps.getLast h,(List.dropLast_concat_getLast h).symm⟩;rw[iY];unfold cq;rw[List.reverse_append];rfl
theorem p8(ps:List Bd)(h:ps≠[]):(cq ps).getLastD z0=flp (ps.headD z0):=by
 cases ps with
 | nil=>exact absurd rfl h
 | cons p r=>exact sY
theorem zY{b:Bool}{ps:List Bd}(h:ps≠[]):(sj (b,cq ps)).Perm (sj (b,ps)):=by
 unfold sj uG;dsimp only;rw[v0,sZ ps h,p8 ps h,zW,zX];refine List.Perm.append (List.reverse_perm _) ?_;cases b with
 | true =>
  show [bR [riE (ps.getLastD z0),leE (ps.headD z0)]].Perm [bR [leE (ps.headD z0),riE (ps.getLastD z0)]];rw[dI (List.Perm.swap _ _ [])]
 | false=>exact List.Perm.swap _ _ []
theorem v3(ps:List Bd):uG (true,ps)=[Jn (ps.getLastD z0) (ps.headD z0)]:=by
 show [bR [leE (ps.headD z0),riE (ps.getLastD z0)]]=[bR [riE (ps.getLastD z0),leE (ps.headD z0)]];rw[dI (List.Perm.swap _ _ [])]
theorem p9{xs ys:List Bd}(h:ys≠[]):(xs++ys).getLastD z0=ys.getLastD z0:=by
 obtain⟨r,p,rfl⟩:∃r p,ys=r++[p]:=⟨ys.dropLast,ys.getLast h,(List.dropLast_concat_getLast h).symm⟩;rw[← Vd,iY,iY]
theorem EK{xs ys:List Bd}:(sj (true,ys++xs)).Perm (sj (true,xs++ys)):=by
 cases xs with
 | nil=>rw[Ve,List.nil_append]
 | cons x xr =>
  cases ys with
  | nil=>rw[Ve,List.nil_append]
  | cons y yr =>
   unfold sj;rw[v3,v3,p9 (by simp),p9 (by simp)]
   dsimp only;rw[k0 (y::yr) x xr (by simp),k0 (x::xr) y yr (by simp)]
   show(inn (y::yr)++Jn ((y::yr).getLastD z0) x::inn (x::xr)++[Jn ((x::xr).getLastD z0) y]).Perm (inn (x::xr)++Jn ((x::xr).getLastD z0) y::inn (y::yr)++[Jn ((y::yr).getLastD z0) x]);generalize inn (y::yr)=A;generalize inn (x::xr)=B;generalize Jn ((y::yr).getLastD z0) x=u;generalize Jn ((x::xr).getLastD z0) y=v;rw[show A++u::B++[v]=(A++[u])++(B++[v]) by simp,show B++v::A++[u]=(B++[v])++(A++[u]) by simp]
   exact List.perm_append_comm
noncomputable def gE(ps:List Bd):List End:=ps.map leE++ps.map riE
theorem s9:∀(p:Bd)(r:List Bd),((inn (p::r)).flatten++[leE p]++[riE ((p::r).getLastD z0)]).Perm (gE (p::r))
 | p,[]=>List.Perm.refl _
 | p,q::r=>by
  have ih:=s9 q r;have e:((p::q::r).getLastD z0)=(q::r).getLastD z0:=rfl;rw[vZ,e,List.flatten_cons];generalize (inn (q::r)).flatten=A at ih ⊢;generalize (q::r).getLastD z0=l at ih ⊢;have h1:(Jn p q).Perm [riE p,leE q]:=(bJ _).2;have h2:(gE (p::q::r)).Perm (riE p::leE p::gE (q::r)):=by
   show(leE p::((q::r).map leE++riE p::(q::r).map riE)).Perm _;exact((Zl).cons _).trans (List.Perm.swap _ _ _)
  refine List.Perm.trans ?_ h2.symm;have h3:(Jn p q++A++[leE p]++[riE l]).Perm (riE p::leE p::(A++[leE q]++[riE l])):=by
   refine((((h1.append_right A).append_right [leE p]).append_right [riE l])).trans ?_;show(riE p::leE q::(A++[leE p]++[riE l])).Perm _;refine List.Perm.cons _ ?_;have e1:leE q::(A++[leE p]++[riE l])=(leE q::A)++leE p::[riE l]:=by simp
   have e2:leE p::(A++[leE q]++[riE l])=leE p::(A++leE q::[riE l]):=by simp
   rw[e1,e2];exact(Zl).trans ((Zl.symm).cons _)
  exact h3.trans ((ih.cons _).cons _)
theorem BP{s:aL}(h:s.2≠[]):((sj s).flatten).Perm (gE s.2):=by
 obtain⟨b,ps⟩:=s;cases ps with
 | nil=>exact absurd rfl h
 | cons p r =>
  refine List.Perm.trans ?_ (s9 p r);unfold sj;rw[Vm,Vd];refine List.Perm.append_left _ ?_;cases b with
  | true =>
   show([bR [leE p,riE ((p::r).getLastD z0)]].flatten).Perm ([leE p]++[riE ((p::r).getLastD z0)]);rw[List.flatten_singleton];exact(bJ _).2
  | false=>exact List.Perm.refl _
noncomputable def zero(x:Str):End:=(x,0)
noncomputable def one(x:Str):End:=(x,1)
theorem ku:∀ps:List Bd,(gE ps).Perm ((ps.map (·.2)).map zero++(ps.map (·.2)).map one)
 | []=>List.Perm.refl _
 | p::r=>by
  have ih:=ku r;have h1:(gE (p::r)).Perm (leE p::riE p::gE r):=(Zl).cons _;refine h1.trans ?_;have h2:((((p::r).map (·.2)).map zero++((p::r).map (·.2)).map one)).Perm (zero p.2::one p.2::((r.map (·.2)).map zero++(r.map (·.2)).map one)):=(Zl).cons _;refine List.Perm.trans ?_ h2.symm;obtain⟨t,n⟩:=p;cases t with
  | true=>exact(List.Perm.swap _ _ _).trans ((ih.cons _).cons _)
  | false=>exact(ih.cons _).cons _
theorem zZ(a b:List Bd):(gE (a++b)).Perm (gE a++gE b):=by
 unfold gE;rw[Vc,Vc];have e1:a.map leE++b.map leE++(a.map riE++b.map riE)=a.map leE++(b.map leE++a.map riE)++b.map riE:=by simp
 have e2:a.map leE++a.map riE++(b.map leE++b.map riE)=a.map leE++(a.map riE++b.map leE)++b.map riE:=by simp
 rw[e1,e2];exact(List.Perm.append_left _ List.perm_append_comm).append_right _
theorem lR:∀{ss:List aL},(∀s∈ss,s.2≠[])->((ss.flatMap sj).flatten).Perm (gE (ss.flatMap (·.2)))
 | [],_=>List.Perm.refl _
 | s::r,h=>by
  have ih:=lR fun x hx=>h x (Xb _ hx);rw[Vf,Vf,Vm];exact((BP (h s Zc)).append ih).trans (zZ _ _).symm
theorem BQ{φ:D}(hφ:d8 φ):∃(n:Int)(φ':D),kc φ [.int 9]=some ((.int n,false),φ')/\0<=n/\n<=40/\d8 φ':=by
 obtain⟨d,φ1,e1,d0,d1,f1⟩:=dw (n:=8) hφ (by decide) (by decide)
 by_cases c:d=0
 ·subst c;obtain⟨d',φ2,e2,d20,d21,f2⟩:=dw (n:=31) f1 (by decide) (by decide)
  refine⟨40-d',φ2,?_,by lia,by lia,f2⟩
  refine cN (o:=.rt (.d (.int (40-d'))) [.io φ2,.v (.int 9)]) rfl ?_ rfl;exact f6 (iI (s:=[.io φ1,.v (.int 9)]) (aN (aC (cR rfl rfl rfl rfl rfl rfl e1) rfl rfl rfl rfl) rfl) (aZ (aC rfl (cR rfl rfl rfl rfl rfl rfl e2) rfl rfl rfl)))
 ·obtain⟨d',φ2,e2,d20,d21,f2⟩:=dw (n:=10) f1 (by decide) (by decide)
  have t:decide (V.int d=V.int 0)=false:=decide_eq_false fun z=>c (V.int.inj z);refine⟨d',φ2,?_,d20,by lia,f2⟩
  refine cN (o:=.rt (.d (.int d')) [.io φ2,.v (.int 9)]) rfl ?_ rfl;refine az (dM (s:=[.io φ1,.v (.int 9)]) (eX (aN (aC (cR rfl rfl rfl rfl rfl rfl e1) rfl rfl rfl rfl) rfl) t) rfl) (aZ (cR rfl rfl (ay (aC rfl rfl rfl rfl rfl) rfl) rfl rfl rfl e2))
theorem lS{α β:Type}{f:α->β}:∀{ys:List β}{xs:List α},ys.Perm (xs.map f)->∃zs:List α,ys=zs.map f/\zs.Perm xs
 | [],xs,p=>⟨[],rfl,by
  have:=p.length_eq;rw[Ya,Zh]at this
  rw[Zf this.symm]⟩
 | y::r,xs,p=>by
  obtain⟨x,hx,rfl⟩:=Qc.mp (p.mem_iff.mp Zc);obtain⟨a,b,rfl⟩:=List.append_of_mem hx;have p2:(f x::r).Perm (f x::(a++b).map f):=by
   refine p.trans ?_;rw[Vc,Vc,Xf];exact Zl
  obtain⟨zs,rfl,q⟩:=lS (List.Perm.cons_inv p2);exact⟨x::zs,rfl,(q.cons x).trans Zl.symm⟩
end
end K08
namespace K08
open PySem L2 VF VL
noncomputable section
theorem CT{ps:List Bd}(hn:∀p∈ps,Nm p.2)(hl:ps.length<=100):cV [.tup (ps.map bdD)]=some (.tup ((cq ps).map bdD),false):=by
 have cm:db (gN 0) dB (bc dG (ae (ai 0) am)) 1 (ps.reverse.map bdD) [.e]=some ((cq ps).map bdD,[.e]):=by
  have:=cT (fg:=gN 0) (fc:=dB) (fe:=bc dG (ae (ai 0) am)) (k:=1) bdD (fun p=>bdD (flp p)) [.e] ps.reverse fun p hpp=>⟨[.v (bdD p)],[.v (bdD p)],.d (bdD (flp p)),[.v (bdD p)],[.v (bdD p)],rfl,rfl,bx rfl rfl (uF (t:=p.1) (n:=p.2) (hn p (List.mem_reverse.mp hpp))) rfl,rfl,rfl⟩;rw[this];unfold cq;rw[Xg];rfl
 refine bi (o:=.rt (.d (.tup ((cq ps).map bdD))) [.v (.tup (ps.map bdD))]) rfl (aZ (bH (ay (cY (s1:=[.v (.tup (ps.map bdD))]) (ds:=ps.reverse.map bdD) (s2:=[.e]) ?_ (q8 (n:=100) ?_ (by decide) rfl) cm) rfl) rfl rfl)) rfl
 ·have:=Bl (st:=[.v (.tup (ps.map bdD))]) (s1:=[.v (.tup (ps.map bdD))]) (fe:=ai 0) (ds:=ps.map bdD) (r:=.d (.tup (ps.map bdD))) rfl rfl;rw[← List.map_reverse]at this;exact this
 ·rw[Ya,List.length_reverse];exact hl
noncomputable def co(ps:List Bd):List Bd:=if ps.length=1 then [(false,(ps.headD z0).2)] else if ltS (ps.headD z0).2 (ps.getLastD z0).2 then ps else cq ps
theorem lt_str{x y:Str}{b:Bool}(h:ltS x y=b):bLt (.str x) (.str y)=some (.bl b,false):=by
 rw[← h];have e1:DL (.str x) (.str y)=none:=rfl;unfold bLt orD;rw[e1];rfl
theorem Gy{ps:List Bd}(hs:ps≠[])(hn:∀p∈ps,Nm p.2)(hl:ps.length<=100):gZ [.tup (ps.map bdD)]=some (.tup ((co ps).map bdD),false):=by
 have h0:=fT hs;have hL:=fU hs;have n0:=hn _ (Wa h0);have nl:=hn _ (Wa hL);have len1:eU [.tup (ps.map bdD)]=some (.int ps.length,false):=by
  show some (D.int ((ps.map bdD).length:Nat),false)=_;rw[Ya]
 unfold co;generalize ps.headD z0=p0 at h0 n0 ⊢;generalize ps.getLastD z0=pl at hL nl ⊢;have i0:bIx (.tup (ps.map bdD)) (.int 0)=some (bdD p0,false):=VF.ix_tup (ia (i:=0) h0);have il:bIx (.tup (ps.map bdD)) (.int (-1))=some (bdD pl,false):=VF.ix_tup (jv hL);have nm0:∀st:En,st=[.v (.tup (ps.map bdD))]->bc bV (ae (fOp bIx (ai 0) (fC (.int 0))) am) st=some (.d (.str p0.2),st):=fun st hst=>by
  subst hst;exact bx (ay (aC rfl rfl rfl rfl i0) rfl) rfl (eI (t:=p0.1) (n:=p0.2) n0) rfl
 have nml:∀st:En,st=[.v (.tup (ps.map bdD))]->bc bV (ae (fOp bIx (ai 0) (fUn rS (fC (.int 1)))) am) st=some (.d (.str pl.2),st):=fun st hst=>by
  subst hst;exact bx (ay (aC rfl (oy rfl rfl rfl) rfl rfl il) rfl) rfl (eI (t:=pl.1) (n:=pl.2) nl) rfl
 have eqn:bEq (.int ps.length) (.int 1)=some (.bl (decide (ps.length=1)),false):=by
  show some (D.bl (decide (V.int (ps.length:Int)=V.int 1)),false)=_;congr 2;congr 1;rw[Qf,decide_eq_true_eq,decide_eq_true_eq];exact⟨fun z=>by have:=V.int.inj z;lia,fun z=>by rw[z];rfl⟩
 by_cases c:ps.length=1
 ·rw[if_pos c];rw[decide_eq_true c]at eqn;refine bi (o:=.rt (.d (.tup [.str p0.2])) [.v (.tup (ps.map bdD))]) rfl ?_ rfl;exact f6 (iI (s:=[.v (.tup (ps.map bdD))]) (aN (aC (bH rfl rfl len1) rfl rfl rfl eqn) rfl) (aZ (cj (ay (nm0 _ rfl) rfl) rfl (by show 1<=1000000;decide))))
 ·rw[if_neg c];rw[decide_eq_false c]at eqn;have t1:aH (fOp bEq (fCB eU (ae (ai 0) am)) (fC (.int 1))) [.v (.tup (ps.map bdD))]=some (false,[.v (.tup (ps.map bdD))]):=aN (aC (bH rfl rfl len1) rfl rfl rfl eqn) rfl;cases e:ltS p0.2 pl.2 with
  | true =>
   refine bi (o:=.rt (.d (.tup (ps.map bdD))) [.v (.tup (ps.map bdD))]) rfl ?_ rfl;exact az (dM t1 rfl) (f6 (iI (s:=[.v (.tup (ps.map bdD))]) (aN (aC (nm0 _ rfl) (nml _ rfl) rfl rfl (lt_str e)) rfl) (aZ (bH rfl rfl rfl))))
  | false =>
   refine bi (o:=.rt (.d (.tup ((cq ps).map bdD))) [.v (.tup (ps.map bdD))]) rfl ?_ rfl;exact az (dM t1 rfl) (az (dM (s:=[.v (.tup (ps.map bdD))]) (aN (aC (nm0 _ rfl) (nml _ rfl) rfl rfl (lt_str e)) rfl) rfl) (aZ (bq rfl rfl (CT hn hl))))
end
end K08
namespace VF
open PySem L2
theorem v4(bt:Nat->Nat->Bool):∀k,argBest bt k<=k
 | 0=>Va _
 | k+1=>by
  unfold argBest;split
  ·exact Va _
  ·exact Nat.le_succ_of_le (v4 bt k)
theorem oz{bt:Nat->Nat->Bool}(tr:∀a b c,bt a b=true->bt c b=false->bt c a=true->False)(ir:∀a,bt a a=false):∀k j,j<=k->bt j (argBest bt k)=false
 | 0,j,h=>by
  obtain rfl:j=0:=by lia
  exact ir 0
 | k+1,j,h=>by
  unfold argBest;cases e:bt (k+1) (argBest bt k) with
  | true =>
   rw[if_pos rfl];by_cases hj:j=k+1
   ·subst hj;exact ir _
   ·have:=oz tr ir k j (by lia)
    cases e2:bt j (k+1) with
    | false=>rfl
    | true=>exact(tr _ _ _ e this e2).elim
  | false =>
   rw[if_neg Bool.noConfusion];by_cases hj:j=k+1
   ·subst hj;exact e
   ·exact oz tr ir k j (by lia)
theorem iZ{ys:List Str}(h:ys≠[]):fm ys∈ys:=by
 have hp:=Vg.mpr h;have hb:=v4 (fun i j=>ltS (ys.getD i Str.empty) (ys.getD j Str.empty)) (ys.length-1);have hlt:vR ys<ys.length:=by unfold vR;lia
 unfold fm;rw[Qa,Za hlt];exact List.getElem_mem hlt
theorem v5{ys:List Str}{y:Str}(h:y∈ys):ltS y (fm ys)=false:=by
 obtain⟨j,hj,rfl⟩:=List.mem_iff_getElem.mp h
 have:=oz (bt:=fun i j=>ltS (ys.getD i Str.empty) (ys.getD j Str.empty)) (fun a b c h1 h2 h3=>by
  have:=m5 h3 h1
  rw[h2]at this;cases this) (fun a=>qM _) (ys.length-1) j (by lia)
 have e:ys.getD j Str.empty=ys[j]:=by rw[Qa,Za hj];rfl
 have t:ltS (ys.getD j Str.empty) (ys.getD (vR ys) Str.empty)=false:=this;rw[e]at t;exact t
theorem oA{b:Str}{ys:List Str}(h:b∈ys):bIndex (.lst (ys.map D.str)) [.str b]=some (.int (ys.idxOf b:Nat),false):=by
 show(fY (ys.map D.str)).bind (fun ys=>if b∈ys then some (D.int (ys.idxOf b:Nat),false) else none)=_;rw[gQ];show(if b∈ys then _ else _)=_;rw[if_pos h]
theorem z9{ys:List Str}(h:ys≠[]):sP [.lst (ys.map D.str)]=some (.str (fm ys),false):=by
 show(fY (ys.map D.str)).bind (fun ys=>if ys=[] then none else some (D.str (fm ys),false))=_;rw[gQ];show(if ys=[] then _ else _)=_;rw[if_neg h]
end VF
namespace K08
open PySem L2 VF VL
noncomputable section
noncomputable def nms(ps:List Bd):List Str:=ps.map (·.2)
noncomputable def fp(ps:List Bd):Nat:=(nms ps).idxOf (fm (nms ps))
theorem kw{ps:List Bd}(h:ps≠[]):nms ps≠[]:=fun z=>h (List.map_eq_nil_iff.mp z)
theorem Aa{ps:List Bd}(h:ps≠[]):fp ps<ps.length:=by
 have:=List.idxOf_lt_length_iff.mpr (iZ (kw h));unfold fp;rwa [show(nms ps).length=ps.length from Ya ..]at this
theorem CU{ps:List Bd}(hs:ps≠[])(hn:∀p∈ps,Nm p.2)(hl:ps.length<=100):cO [.tup (ps.map bdD)]=some (.int (fp ps:Nat),false):=by
 have cm:db (gN 0) dB (bc bV (ae (ai 0) am)) 1 (ps.map bdD) [.e]=some ((nms ps).map D.str,[.e]):=by
  have:=cT (fg:=gN 0) (fc:=dB) (fe:=bc bV (ae (ai 0) am)) (k:=1) bdD (fun p=>D.str p.2) [.e] ps fun p hpp=>⟨[.v (bdD p)],[.v (bdD p)],.d (.str p.2),[.v (bdD p)],[.v (bdD p)],rfl,rfl,bx rfl rfl (eI (t:=p.1) (n:=p.2) (hn p hpp)) rfl,rfl,rfl⟩;rw[this];unfold nms;rw[Xg];rfl
 refine bi (o:=.rt (.d (.int (fp ps:Nat))) [.v (.tup (ps.map bdD)),.o (.lst ((nms ps).map D.str))]) rfl ?_ rfl;refine az (s:=[.v (.tup (ps.map bdD)),.o (.lst ((nms ps).map D.str))]) (gy (cY (s2:=[.e]) (iJ rfl rfl) (q8 (n:=100) (by rw[Ya];exact hl) (by decide) rfl) cm) rfl) ?_
 exact aZ (se rfl rfl rfl (ay (bH rfl rfl (z9 (kw hs))) rfl) rfl rfl (oA (iZ (kw hs))))
noncomputable def side(ps:List Bd):List Bd:=if (ps.getD (fp ps) z0).1 then cq ps else ps
noncomputable def cr(ps:List Bd):List Bd:=(side ps).drop (fp (side ps))++(side ps).take (fp (side ps))
theorem ld(ps:List Bd):(cq ps).length=ps.length:=by unfold cq;rw[Ya,List.length_reverse]
theorem v6{ps:List Bd}(hn:∀p∈ps,Nm p.2):∀p∈cq ps,Nm p.2:=fun p hp=>by
 obtain⟨q,hq,rfl⟩:=Qc.mp hp;exact hn q (List.mem_reverse.mp hq)
theorem v7{ps:List Bd}(hs:ps≠[])(hn:∀p∈ps,Nm p.2):side ps≠[]/\(∀p∈side ps,Nm p.2)/\(side ps).length=ps.length:=by
 unfold side;split
 ·refine⟨fun z=>hs ?_,v6 hn,ld ps⟩;have:=ld ps;rw[z]at this;exact Zf this.symm
 ·exact⟨hs,hn,rfl⟩
theorem Gz{ps:List Bd}(hs:ps≠[])(hn:∀p∈ps,Nm p.2)(hl:ps.length<=100):g6 [.tup (ps.map bdD)]=some (.tup ((cr ps).map bdD),false):=by
 obtain⟨s1,s2,s3⟩:=v7 hs hn;have hf:=Aa hs;have a1:ps[fp ps]?=some (ps.getD (fp ps) z0):=by rw[Qa,Za hf];rfl
 have nf:=hn _ (Wa a1);have i1:bIx (.tup (ps.map bdD)) (.int (fp ps:Nat))=some (bdD (ps.getD (fp ps) z0),false):=VF.ix_tup (ia a1);have t1:aH (bc b9 (ae (fOp bIx (ai 0) (bc cO (ae (ai 0) am))) am)) [.v (.tup (ps.map bdD)),.e,.e]=some ((ps.getD (fp ps) z0).1,[.v (.tup (ps.map bdD)),.e,.e]) :=
  aN (bx (ay (aC rfl (bx rfl rfl (CU hs hn hl) rfl) rfl rfl i1) rfl) rfl (fz (t:=(ps.getD (fp ps) z0).1) (n:=(ps.getD (fp ps) z0).2) nf) rfl) rfl
 have st1:bU (fIf (aH (bc b9 (ae (fOp bIx (ai 0) (bc cO (ae (ai 0) am))) am))) (bB cV (ae (ai 0) am)) (fCB b8 (ae (ai 0) am))) 1 [.v (.tup (ps.map bdD)),.e,.e]=some (.nx [.v (.tup (ps.map bdD)),.v (.tup ((side ps).map bdD)),.e]):=by
  unfold side;cases e:(ps.getD (fp ps) z0).1 with
  | true =>
   rw[e]at t1;exact dW (kN t1 (bq rfl rfl (CT hn hl))) rfl
  | false =>
   rw[e]at t1;exact dW (lY t1 (bH rfl rfl rfl)) rfl
 have f2:=CU s1 s2 (by lia)
 have hf2:=Aa s1;have hk:fp (side ps)<=((side ps).map bdD).length:=by rw[Ya];lia
 have c1:sn (.tup ((side ps).map bdD)) (some ((fp (side ps):Nat):Int)) none=some (.tup (((side ps).drop (fp (side ps))).map bdD),false):=by rw[uf,sv hk,List.map_drop]
 have c2:sn (.tup ((side ps).map bdD)) none (some ((fp (side ps):Nat):Int))=some (.tup (((side ps).take (fp (side ps))).map bdD),false):=by rw[uf,D7 hk,List.map_take]
 have ct:pP (.tup (((side ps).drop (fp (side ps))).map bdD)) (.tup (((side ps).take (fp (side ps))).map bdD))=some (.tup ((cr ps).map bdD),false):=by
  rw[Bs (by rw[Ya,Ya,Wj,Qk];lia)]
  unfold cr;rw[Vc]
 refine bi (o:=.rt (.d (.tup ((cr ps).map bdD))) [.v (.tup (ps.map bdD)),.v (.tup ((side ps).map bdD)),.v (.int (fp (side ps):Nat))]) rfl ?_ rfl;refine az st1 (az (s:=[.v (.tup (ps.map bdD)),.v (.tup ((side ps).map bdD)),.v (.int (fp (side ps):Nat))]) (dW (bx rfl rfl f2 rfl) rfl) ?_);exact aZ (aC (pO rfl rfl rfl rfl c1) (pO rfl rfl rfl rfl c2) rfl rfl ct)
noncomputable def cs(s:aL):aL:=(s.1,if s.1 then cr s.2 else co s.2)
theorem GA{s:aL}(hs:s.2≠[])(hn:∀p∈s.2,Nm p.2)(hl:s.2.length<=100):cW [stD s]=some (stD (cs s),false):=by
 obtain⟨r,ps⟩:=s;dsimp only at hs hn hl;refine bi (o:=.rt (.d (stD (cs (r,ps)))) [.v (stD (r,ps))]) rfl ?_ rfl;cases r with
 | true=>exact az (dM (s:=[.v (stD (true,ps))]) rfl rfl) (aZ (cj (ay rfl (ay (bq (ay (aC rfl rfl rfl rfl rfl) rfl) rfl (Gz hs hn hl)) rfl)) rfl (by show 2<=1000000;decide)))
 | false=>exact f6 (iI (s:=[.v (stD (false,ps))]) rfl (aZ (cj (ay rfl (ay (bq (ay (aC rfl rfl rfl rfl rfl) rfl) rfl (Gy hs hn hl)) rfl)) rfl (by show 2<=1000000;decide))))
noncomputable def rk(s:aL):KB:=(s.1,(s.2.headD z0).2)
theorem GB{s:aL}(hs:s.2≠[])(hn:∀p∈s.2,Nm p.2):cP [stD s]=some (keyD (rk s),false):=by
 obtain⟨r,ps⟩:=s;dsimp only at hs hn;have h0:=fT hs;have n0:=hn _ (Wa h0);have i0:bIx (.tup (ps.map bdD)) (.int 0)=some (bdD (ps.headD z0),false):=VF.ix_tup (ia (i:=0) h0);have nm:bc bV (ae (fOp bIx (fOp bIx (ai 0) (fC (.int 1))) (fC (.int 0))) am) [.v (stD (r,ps))]=some (.d (.str (ps.headD z0).2),[.v (stD (r,ps))]):=bx (ay (aC (aC rfl rfl rfl rfl rfl) rfl rfl rfl i0) rfl) rfl (eI (t:=(ps.headD z0).1) (n:=(ps.headD z0).2) n0) rfl;have eq:fOp bEq (fOp bIx (ai 0) (fC (.int 0))) (fC (.str "ring")) [.v (stD (r,ps))]=some (.d (.bl r),[.v (stD (r,ps))]):=by cases r<;>rfl
 refine bi (o:=.rt (.d (keyD (rk (r,ps)))) [.v (stD (r,ps))]) rfl (aZ (cj (ay eq (ay nm rfl)) rfl (by show 2<=1000000;decide))) rfl
end
end K08
namespace VF
open PySem L2 TS
section
variable {ks:List KB}
theorem EL(g h:Nat)(n:g≠h):Bf (cB ks) g h∨Bf (cB ks) h g:=by
 cases e1:cB ks g h with
 | true=>exact .inl (.inl e1)
 | false =>
  cases e2:cB ks h g with
  | true=>exact .inr (.inl e2)
  | false =>
   rcases Nat.lt_or_gt_of_ne n with z|z
   ·exact .inl (.inr ⟨e2,z⟩)
   ·exact .inr (.inr ⟨e1,z⟩)
theorem EM{a b c:Nat}(h1:Bf (cB ks) a b)(h2:Bf (cB ks) b c):Bf (cB ks) a c:=by
 have asy:∀x y,cB ks x y=true->cB ks y x=false:=fun x y z=>by
  cases e:cB ks y x with
  | false=>rfl
  | true =>
   have:=kQ z e;rw[jp]at this;cases this
 rcases h1 with h1|⟨h1,l1⟩
 ·rcases h2 with h2|⟨h2,l2⟩
  ·exact .inl (kQ h1 h2)
  ·rcases m6 (q:=ks.getD c (false,Str.empty)) h1 with q|q
   ·exact .inl q
   ·have:cB ks c b=true:=q;rw[h2]at this;cases this
 ·rcases h2 with h2|⟨h2,l2⟩
  ·rcases m6 (q:=ks.getD a (false,Str.empty)) h2 with q|q
   ·have:cB ks b a=true:=q;rw[h1]at this;cases this
   ·exact .inl q
  ·refine .inr ⟨?_,by lia⟩
   cases e:cB ks c a with
   | false=>rfl
   | true =>
    rcases m6 (q:=ks.getD b (false,Str.empty)) e with q|q
    ·have:cB ks c b=true:=q;rw[h2]at this;cases this
    ·have:cB ks b a=true:=q;rw[h1]at this;cases this
theorem Ab{g:Nat}:∀(l:List Nat),g∉l->l.Pairwise (Bf (cB ks))->∃m:List Nat,m.Perm (g::l)/\m.Pairwise (Bf (cB ks))
 | [],_,_=>⟨[g],List.Perm.refl _,List.pairwise_singleton _ _⟩
 | h::l,n,s=>by
  obtain⟨s1,s2⟩:=Yh.mp s;have ne:g≠h:=fun z=>n (by simp[z])
  rcases EL (ks:=ks) g h ne with q|q
  ·refine⟨g::h::l,List.Perm.refl _,Yh.mpr ⟨fun b hb=>?_,s⟩⟩;rcases Ze.mp hb with rfl|hb
   ·exact q
   ·exact EM q (s1 b hb)
  ·obtain⟨m,p,sm⟩:=Ab l (fun z=>n (Xb _ z)) s2;refine⟨h::m,(p.cons h).trans (List.Perm.swap _ _ _),Yh.mpr ⟨fun b hb=>?_,sm⟩⟩;rcases Ze.mp (p.mem_iff.mp hb) with rfl|hb
   ·exact q
   ·exact s1 b hb
theorem CV:∀(l:List Nat),l.Nodup->∃m:List Nat,m.Perm l/\m.Pairwise (Bf (cB ks))
 | [],_=>⟨[],List.Perm.refl _,List.Pairwise.nil⟩
 | g::l,n=>by
  obtain⟨n1,n2⟩:=Vk.mp n;obtain⟨m,p,s⟩:=CV l n2;obtain⟨m',p',s'⟩:=Ab (ks:=ks) (g:=g) m (fun z=>n1 (p.mem_iff.mp z)) s;exact⟨m',p'.trans (p.cons g),s'⟩
theorem Ac(ds:List D):∃γ:Array Nat,γ.Perm (Array.range ds.length)/\Sg (cB ks) γ 0 ds.length:=by
 obtain⟨m,p,s⟩:=CV (ks:=ks) (List.range ds.length) List.nodup_range;refine⟨m.toArray,Yg.mpr (by rw[Xm];exact p),fun i j g h _ hij hj e1 e2=>?_⟩
 have e1':m[i]?=some g:=by simpa using e1
 have e2':m[j]?=some h:=by simpa using e2
 obtain⟨i1,rfl⟩:=Yb.mp e1';obtain⟨i2,rfl⟩:=Yb.mp e2';exact Zi.mp s i j i1 i2 hij
theorem oB{α:Type}(f:α->D)(k:α->KB)(l:List α):∃m:List α,m.Perm l/\ma (l.map k) (l.map f)=m.map f/\m.Pairwise (fun a b=>ltB (k b) (k a)=false):=by
 obtain⟨γ,p,g⟩:=Ac (ks:=l.map k) (l.map f);rw[← sQ p g];rw[Ya]at p g;have hγ:∀x∈γ.toList,x<l.length:=fun x hx=>by
  have:=(Yg.mp p).mem_iff.mp hx;rw[Xm]at this;exact Zm.mp this
 cases l with
 | nil =>
  have:γ.toList=[]:=Zf (by rw[Yc,p.size_eq,Qj];rfl)
  exact⟨[],List.Perm.refl _,by rw[this];rfl,List.Pairwise.nil⟩
 | cons x0 l0 =>
  refine⟨γ.toList.map fun g=>(x0::l0).getD g x0,?_,?_,?_⟩
  ·have:=(Yg.mp p).map fun g=>(x0::l0).getD g x0;rw[Xm]at this;refine this.trans (List.Perm.of_eq ?_);refine List.ext_getElem (by simp) fun i h1 h2=>?_
   rw[List.getElem_map,List.getElem_range,Qa,Za h2];rfl
  ·rw[Xg];refine Xk fun g hg=>?_;have hgl:=hγ g hg;refine lZ ?_;rw[Wc,Za hgl];show some _=some (f ((x0::l0).getD g x0));rw[Qa,Za hgl];rfl
  ·rw[List.pairwise_map];refine(qN (by rw[p.size_eq,Qj]) g).imp_of_mem fun {a b} ha hb h=>?_
   have ea:((x0::l0).map k).getD a (false,Str.empty)=k ((x0::l0).getD a x0):=by
    rw[Qa,Wc,Qa,Za (hγ a ha)];rfl
   have eb:((x0::l0).map k).getD b (false,Str.empty)=k ((x0::l0).getD b x0):=by
    rw[Qa,Wc,Qa,Za (hγ b hb)];rfl
   have asy:cB ((x0::l0).map k) b a=false:=by
    rcases h with h|h
    ·cases e:cB ((x0::l0).map k) b a with
     | false=>rfl
     | true =>
      have:=kQ h e;rw[jp]at this;cases this
    ·exact h.1
   unfold cB at asy;rw[ea,eb]at asy;exact asy
end
end VF
namespace K08
open PySem L2 VF VL
noncomputable section
set_option tactic.hygienic true in
theorem BR{ps:List Bd}(hs:ps≠[])(hn:∀p∈ps,Nm p.2):co ps≠[]/\(∀p∈co ps,Nm p.2)/\(co ps).length=ps.length:=by
 have n0:=hn _ (Wa (fT hs));unfold co;split
 ·rename_i c
  exact⟨by simp,fun p hp=>by rw[Wb.mp hp];exact n0,c.symm⟩
 ·split
  ·exact⟨hs,hn,rfl⟩
  ·refine⟨fun z=>hs ?_,v6 hn,ld ps⟩;have:=ld ps;rw[z]at this;exact Zf this.symm
theorem BS{ps:List Bd}(hs:ps≠[])(hn:∀p∈ps,Nm p.2):cr ps≠[]/\(∀p∈cr ps,Nm p.2)/\(cr ps).length=ps.length:=by
 obtain⟨s1,s2,s3⟩:=v7 hs hn;have hf:=Aa s1;have ln:(cr ps).length=ps.length:=by
  unfold cr;rw[Xa,Wj,Qk];lia
 refine⟨fun z=>hs ?_,fun p hp=>?_,ln⟩
 ·rw[z]at ln;exact Zf ln.symm
 ·rcases Xc.mp hp with m|m
  ·exact s2 p (List.mem_of_mem_drop m)
  ·exact s2 p (List.mem_of_mem_take m)
theorem nc{s:aL}(hs:s.2≠[])(hn:∀p∈s.2,Nm p.2):(cs s).2≠[]/\(∀p∈(cs s).2,Nm p.2)/\(cs s).2.length=s.2.length:=by
 obtain⟨r,ps⟩:=s;cases r with
 | true=>exact BS hs hn
 | false=>exact BR hs hn
set_option tactic.hygienic true in
theorem GC{s:aL}(hs:s.2≠[]):(sj (cs s)).Perm (sj s):=by
 obtain⟨r,ps⟩:=s;dsimp only at hs;cases r with
 | true =>
  show(sj (true,cr ps)).Perm (sj (true,ps));have h1:(sj (true,cr ps)).Perm (sj (true,side ps)):=by
   have:=EK (xs:=(side ps).take (fp (side ps))) (ys:=(side ps).drop (fp (side ps)));rwa [Xi]at this
  refine h1.trans ?_;unfold side;split
  ·exact zY hs
  ·exact List.Perm.refl _
 | false =>
  show(sj (false,co ps)).Perm (sj (false,ps));unfold co;split
  ·rename_i c
   obtain⟨p,rfl⟩:=List.length_eq_one_iff.mp c;obtain⟨t,n⟩:=p;cases t with
   | true=>exact List.Perm.swap _ _ []
   | false=>exact List.Perm.refl _
  ·split
   ·exact List.Perm.refl _
   ·exact zY hs
noncomputable def cn(ss:List aL):List aL:=(oB stD rk (ss.map cs)).choose
theorem rb(ss:List aL):(cn ss).Perm (ss.map cs)/\ma ((ss.map cs).map rk) ((ss.map cs).map stD)=(cn ss).map stD/\(cn ss).Pairwise (fun a b=>ltB (rk b) (rk a)=false):=(oB stD rk (ss.map cs)).choose_spec
theorem v8:∀{ss:List aL},(∀s∈ss,s.2≠[])->(∀s∈ss,∀p∈s.2,Nm p.2)->keysOf cP (ss.map stD)=some (ss.map rk)
 | [],_,_=>rfl
 | s::ss,h1,h2=>by
  have ih:=v8 (ss:=ss) (fun x hx=>h1 x (Xb _ hx)) fun x hx=>h2 x (Xb _ hx);have e:=GB (h1 s Zc) (h2 s Zc);rw[Xf,keysOf,e,ih];rfl
theorem Ad{ss:List aL}(hne:∀s∈ss,s.2≠[])(hn:∀s∈ss,∀p∈s.2,Nm p.2)(hl:(ss.flatMap (·.2)).length<=100):qO [.lst (ss.map stD)]=some (.tup ((cn ss).map stD),false):=by
 have hsl:=m9 ss hne;have len:∀s∈ss,s.2.length<=100:=fun s hs=>by
  obtain⟨a,b,e⟩:=List.append_of_mem hs;rw[e,Vh,Vf,Xa,Xa]at hl;lia
 have cm:db (gN 0) dB (bB cW (ae (ai 0) am)) 1 (ss.map stD) [.e]=some ((ss.map cs).map stD,[.e]):=by
  have:=cT (fg:=gN 0) (fc:=dB) (fe:=bB cW (ae (ai 0) am)) (k:=1) stD (fun s=>stD (cs s)) [.e] ss fun s hs=>⟨[.v (stD s)],[.v (stD s)],.d (stD (cs s)),[.v (stD s)],[.v (stD s)],rfl,rfl,bq rfl rfl (GA (hne s hs) (hn s hs) (len s hs)),rfl,rfl⟩;rw[this,Xg];rfl
 have ke:=v8 (ss:=ss.map cs) (fun s hs=>by
  obtain⟨t,ht,rfl⟩:=Qc.mp hs;exact(nc (hne t ht) (hn t ht)).1) (fun s hs=>by
  obtain⟨t,ht,rfl⟩:=Qc.mp hs
  exact(nc (hne t ht) (hn t ht)).2.1)
 have so:uq cP [.lst ((ss.map cs).map stD)]=some (.lst ((cn ss).map stD),true):=by
  show(keysOf cP ((ss.map cs).map stD)).bind _=_;rw[ke];show some (D.lst (ma ((ss.map cs).map rk) ((ss.map cs).map stD)),true)=_;rw[(rb ss).2.1]
 refine bi (o:=.rt (.d (.tup ((cn ss).map stD))) [.v (.lst (ss.map stD))]) rfl (aZ (bH (ay (bH (ay (cY (s2:=[.e]) (vo rfl rfl) (q8 (n:=100) (by rw[Ya];lia) (by decide) rfl) cm) rfl) rfl so) rfl) rfl rfl)) rfl
theorem Ae:∀{ss:List aL},(∀s∈ss,s.2≠[])->((ss.map cs).flatMap sj).Perm (ss.flatMap sj)
 | [],_=>List.Perm.refl _
 | s::r,h=>by
  rw[Xf,Vf,Vf];exact(GC (h s Zc)).append (Ae fun x hx=>h x (Xb _ hx))
theorem GD{ss:List aL}(hne:∀s∈ss,s.2≠[]):jo (cn ss)=jo ss:=ox (((rb ss).1.flatMap_right sj).trans (Ae hne))
end
end K08
namespace VF
open PySem L2
theorem BT{x y:Str}(h1:ltS x y=false)(h2:ltS y x=false):x=y:=by
 rcases(lJ 1).tri (a:=.str x) (b:=.str y) trivial with q|q|q
 ·injection q
 ·have:ltS x y=true:=q;rw[h1]at this;cases this
 ·have:ltS y x=true:=q;rw[h2]at this;cases this
theorem v9{ys zs:List Str}(hy:ys≠[])(hz:zs≠[])(h:∀y,y∈ys↔y∈zs):fm ys=fm zs :=
 BT (v5 ((h _).mp (iZ hy))) (v5 ((h _).mpr (iZ hz)))
theorem Af{a:Str}{u v:List Str}(h:a∉u):(u++a::v).idxOf a=u.length:=by
 rw[List.idxOf_append,if_neg h,List.idxOf_cons_self];lia
end VF
namespace K08
open PySem L2 VF VL
noncomputable section
theorem BU(a b:List Bd):cq (a++b)=cq b++cq a:=by unfold cq;rw[List.reverse_append,Vc]
theorem ng(ps:List Bd):nms (cq ps)=(nms ps).reverse:=by
 unfold nms cq;rw[Xg,← List.map_reverse];rfl
theorem fv(a b:List Bd):nms (a++b)=nms a++nms b:=Vc ..
theorem EN{ps:List Bd}(hs:ps≠[])(nd:(nms ps).Nodup):∃u b v,ps=u++(b,fm (nms ps))::v/\fm (nms ps)∉nms u/\fm (nms ps)∉nms v:=by
 obtain⟨p,hp,e⟩:=Qc.mp (iZ (kw hs));obtain⟨u,v,rfl⟩:=List.append_of_mem hp;obtain⟨b,n⟩:=p;have e':n=fm (nms (u++(b,n)::v)):=e;rw[← e'];have nd':(nms u++n::nms v).Nodup:=by
  have:=nd;rw[fv]at this;exact this
 rw[Qh]at nd';refine⟨u,b,v,rfl,fun z=>?_,?_⟩
 ·exact nd'.2.2 n z n Zc rfl
 ·exact(Vk.mp nd'.2.1).1
theorem GE{u v:List Bd}{b:Bool}{n:Str}(hm:fm (nms (u++(b,n)::v))=n)(hu:n∉nms u)(hv:n∉nms v):cr (u++(b,n)::v)=(false,n)::(if b then cq u++cq v else v++u):=by
 have f1:fp (u++(b,n)::v)=u.length:=by
  unfold fp;rw[hm,fv];have:=Af (v:=nms v) hu;rw[show(nms u).length=u.length from Ya ..]at this;exact this
 have g1:(u++(b,n)::v).getD (fp (u++(b,n)::v)) z0=(b,n):=by
  rw[f1,Qa,Ye (Va _),Nat.sub_self];rfl
 cases b with
 | false =>
  have sd:side (u++(false,n)::v)=u++(false,n)::v:=by unfold side;rw[g1];rfl
  unfold cr;rw[sd,f1,List.drop_left,List.take_left];rfl
 | true =>
  have sd:side (u++(true,n)::v)=cq v++(false,n)::cq u:=by
   unfold side;rw[g1];show cq (u++(true,n)::v)=_;rw[BU,lc,Vd];rfl
  have hv':n∉nms (cq v):=by rw[ng];exact fun z=>hv (List.mem_reverse.mp z)
  have hm2:fm (nms (cq v++(false,n)::cq u))=n:=by
   refine Eq.trans (v9 ?_ ?_ fun y=>?_) hm
   ·rw[fv];simp[nms]
   ·rw[fv];simp[nms]
   ·rw[fv,fv];show y∈nms (cq v)++n::nms (cq u)↔y∈nms u++n::nms v;rw[ng,ng];simp only[Xc,Ze,List.mem_reverse];exact⟨fun z=>by rcases z with z|z|z<;>simp[z],fun z=>by rcases z with z|z|z<;>simp[z]⟩
  have f2:fp (cq v++(false,n)::cq u)=(cq v).length:=by
   unfold fp;rw[hm2,fv];have:=Af (v:=nms (cq u)) hv';rw[show(nms (cq v)).length=(cq v).length from Ya ..]at this;exact this
  unfold cr;rw[sd,f2,List.drop_left,List.take_left];rfl
theorem Ag{ps qs:List Bd}(hp:ps≠[])(h:(nms ps).Perm (nms qs)):fm (nms qs)=fm (nms ps):=by
 have hq:nms qs≠[]:=fun z=>by
  rw[z]at h;exact kw hp (List.Perm.eq_nil h)
 exact v9 hq (kw hp) fun y=>h.mem_iff.symm
set_option tactic.hygienic true in
theorem EO{s:aL}(hs:s.2≠[]):(nms (cs s).2).Perm (nms s.2):=by
 obtain⟨r,ps⟩:=s;dsimp only at hs;have mp:(nms (cq ps)).Perm (nms ps):=by rw[ng];exact List.reverse_perm _
 cases r with
 | true =>
  show(nms (cr ps)).Perm (nms ps);have h1:(nms (cr ps)).Perm (nms (side ps)):=by
   unfold cr;rw[fv];refine List.perm_append_comm.trans ?_;rw[← fv,Xi]
  refine h1.trans ?_;unfold side;split
  ·exact mp
  ·exact List.Perm.refl _
 | false =>
  show(nms (co ps)).Perm (nms ps);unfold co;split
  ·rename_i c
   obtain⟨p,rfl⟩:=List.length_eq_one_iff.mp c;exact List.Perm.refl _
  ·split
   ·exact List.Perm.refl _
   ·exact mp
end
end K08
namespace K08
open PySem L2 VF VL
theorem wa(c:Nat):minus.cps.contains c=true↔c=45:=by
 rw[Array.contains_iff_mem,← Array.mem_toList_iff,eE];simp
theorem BV{c:Nat}(h:97<=c/\c<=122):minus.cps.contains c=false:=by
 cases e:minus.cps.contains c with
 | false=>rfl
 | true=>have:=(wa c).mp e;lia
theorem nh{l:List Nat}(h:∀c∈l,97<=c/\c<=122):l.takeWhile (fun c=>minus.cps.contains c)=[]:=by
 cases l with
 | nil=>rfl
 | cons c r=>rw[List.takeWhile_cons,BV (h c Zc)];rfl
theorem Ah{p:Bool×Str}(h:Nm p.2):Txt.stripChars (bd p) minus=p.2:=by
 obtain⟨t,n⟩:=p;have hl:∀c∈n.cps.toList,97<=c/\c<=122:=h.2.2;have hr:∀c∈n.cps.toList.reverse,97<=c/\c<=122:=fun c hc=>hl c (List.mem_reverse.mp hc);unfold Txt.stripChars;rw[PySem.W.stripBy_eq];refine vU ?_;unfold PySem.W.stripped;dsimp only;rw[if_pos rfl,if_pos rfl,StrLaws.strSub_toList];have g:(fun c=>minus.cps.contains c)=minus.cps.contains:=rfl;cases t with
 | false =>
  have e:(bd (false,n)).cps.toList=n.cps.toList:=rfl;rw[e,← g,nh hl,Zh,List.drop_zero,nh hr,Zh];show List.take (n.length-0-0) n.cps.toList=n.cps.toList;exact Vl (by show n.cps.toList.length<=n.cps.size-0-0;rw[Yc];lia)
 | true =>
  have e:(bd (true,n)).cps.toList=45::n.cps.toList:=by
   show(minus++n).cps.toList=_;rw[Str.cps_append,Array.toList_append,eE];rfl
  have tk:(45::n.cps.toList).takeWhile (fun c=>minus.cps.contains c)=[45]:=by
   rw[List.takeWhile_cons,(wa 45).mpr rfl,if_pos rfl,nh hl]
  have len:(bd (true,n)).length=n.cps.toList.length+1:=by
   show(bd (true,n)).cps.size=_;rw[← Yc,e,Qd]
  rw[e,← g,tk];show List.take ((bd (true,n)).length-(List.takeWhile _ (List.drop 1 (45::n.cps.toList)).reverse).length-1) (List.drop 1 (45::n.cps.toList))=n.cps.toList;rw[List.drop_succ_cons,List.drop_zero,nh hr,Zh,len];exact Vl (by lia)
theorem tf{p:Bool×Str}(h:Nm p.2):iL (bdD p) [.str minus]=some (.str p.2,false):=by
 show(if (bd p).length<=1000000 then some (D.str (Txt.stripChars (bd p) minus),false) else none)=_;rw[if_pos (iX h),Ah h]
end K08
namespace K08
open PySem L2 VF VL
noncomputable section
theorem Ai{n:Str}(h:Nm n):bNe (.str n) (.str "")=some (.bl true,false):=by
 have e1:wM true (.str n) (.str "")=some (.bl true,false):=by
  show some (D.bl (!decide (V.str n=V.str "")),false)=_;rw[decide_eq_false fun z=>?_];rfl;have z':=V.str.inj z;have:=h.1;rw[z']at this;exact absurd this (by decide +kernel)
 unfold bNe orD;rw[e1]
theorem Aj{ss:List aL}(hne:∀s∈ss,s.2≠[])(hn:∀s∈ss,∀p∈s.2,Nm p.2)(len:∀s∈ss,s.2.length<=100):hW [.tup (ss.map stD)]=some (.bl true,false):=by
 have sp:∃B,hV=aS (sIf (iD (aH (fCB bZ (ae (ai 0) (ae (fC (.ty "tuple")) am))))) (bE (fC (.bl false))) cw) (aS (jx (fIA (ai 0)) (gN 1) B) (bE (fC (.bl true)))) /\
   ∀(S:D)(s:aL),s.2≠[]->(∀p∈s.2,Nm p.2)->s.2.length<=100->B [.v S,.v (stD s)]=some (.nx [.v S,.v (stD s)]):=by
  refine⟨_,rfl,fun S s hs hp hl=>?_⟩;obtain⟨r,ps⟩:=s;dsimp only at hs hp hl;have hpos:=Vg.mpr hs;have cm:db (gN 0) dB (iE (fCB bZ (ae (ai 0) (ae (fC (.ty "str")) am))) (fOp bNe (fBM "str" iL (ai 0) (ae (fC (.str "-")) am)) (fC (.str "")))) 1 (ps.map bdD) [.e]=some (List.replicate ps.length (D.bl true),[.e]):=by
   have:=cT (fg:=gN 0) (fc:=dB) (fe:=iE (fCB bZ (ae (ai 0) (ae (fC (.ty "str")) am))) (fOp bNe (fBM "str" iL (ai 0) (ae (fC (.str "-")) am)) (fC (.str "")))) (k:=1) bdD (fun _=>D.bl true) [.e] ps fun p hpp=>⟨[.v (bdD p)],[.v (bdD p)],.d (.bl true),[.v (bdD p)],[.v (bdD p)],rfl,rfl,nK (s:=[.v (bdD p)]) rfl rfl (aC (se rfl rfl rfl rfl rfl rfl (tf (hp p hpp))) rfl rfl rfl (Ai (hp p hpp))),rfl,rfl⟩;rw[this,vX]
  have len4:eU [.tup (ps.map bdD)]=some (.int ps.length,false):=by
   show some (D.int ((ps.map bdD).length:Nat),false)=_;rw[Ya]
  have eq0:bEq (.int (ps.length:Int)) (.int 0)=some (.bl false,false):=by
   show some (D.bl (decide (V.int (ps.length:Int)=V.int 0)),false)=_;rw[decide_eq_false fun z=>by have:=V.int.inj z;lia]
  refine az (s:=[.v S,.v (stD (r,ps))]) (dM (s:=[.v S,.v (stD (r,ps))]) (by cases r<;>rfl) rfl) ?_
  refine az (s:=[.v S,.v (stD (r,ps))]) (dM (s:=[.v S,.v (stD (r,ps))]) (D3 rfl (aN (aC (bH (ay (aC rfl rfl rfl rfl rfl) rfl) rfl len4) rfl rfl rfl eq0) rfl)) rfl) ?_;refine dM (s:=[.v S,.v (stD (r,ps))]) (qA (c:=true) (aN (bH (ay (cY (s2:=[.e]) (iJ (aC rfl rfl rfl rfl rfl) rfl) (q8 (n:=100) (by rw[Ya];exact hl) (by decide) rfl) cm) rfl) rfl (nN _)) rfl)) rfl
 obtain⟨B,eF,hB⟩:=sp;obtain⟨sf,e,s1,rfl,q1⟩:=cZ (fg:=gN 1) (B:=B) stD ss (fun _ st=>∃s1:Sl,st=[.v (.tup (ss.map stD)),s1]/\s1.isIo=false)
  (by
   rintro gone s rest st ha ⟨s1,rfl,q1⟩;have hm:s∈ss:=by rw[ha];simp
   exact⟨_,_,b7 rfl q1,hB _ s (hne s hm) (hn s hm) (len s hm),.v (stD s),rfl,rfl⟩)
  ss [] [.v (.tup (ss.map stD)),.e] rfl ⟨.e,rfl,rfl⟩
 refine bi (o:=.rt (.d (.bl true)) [.v (.tup (ss.map stD)),s1]) rfl ?_ rfl;rw[eF];exact az rfl (az (f7 (iJ rfl rfl) e) rfl)
noncomputable def bgD(s:aL):D:=.tup [.int (if s.1 then 1 else 0),.str (s.2.headD z0).2]
theorem CW(s:aL):Pl 2 (bgD s):=.tup fun d hd=>by
 rcases Ze.mp hd with rfl|hd
 ·exact .int _ _
 ·obtain rfl:=Wb.mp hd;exact .str _ _
theorem CY(k:Nat){m:Nat}{d:D}(h:Pl m d):Pl (m+k) d:=by
 induction k with
 | zero=>exact h
 | succ k ih=>exact ih.up
theorem GF(a b:aL):Cp 40 (bgD a) (bgD b):=by
 intro i x y e1 e2
 match i,e1,e2 with
 | 0,e1,e2 =>
  have q1:D.int (if a.1 then 1 else 0)=x:=by simpa using e1
  have q2:D.int (if b.1 then 1 else 0)=y:=by simpa using e2
  subst q1 q2;trivial
 | 1,e1,e2 =>
  have q1:D.str (a.2.headD z0).2=x:=by simpa using e1
  have q2:D.str (b.2.headD z0).2=y:=by simpa using e2
  subst q1 q2;trivial
 | i+2,e1,_=>simp at e1
theorem GG(a b:aL):ltN 40 (bgD a) (bgD b)=ltB (rk a) (rk b):=by
 show ltL (ltN 39) [.int (if a.1 then 1 else 0),.str (a.2.headD z0).2] [.int (if b.1 then 1 else 0),.str (b.2.headD z0).2]=_;obtain⟨r,ps⟩:=a;obtain⟨r',qs⟩:=b;by_cases e:r=r'
 ·subst e;rw[bX];by_cases e2:(ps.headD z0).2=(qs.headD z0).2
  ·rw[e2,bX];have:rk (r,ps)=rk (r,qs):=by unfold rk;dsimp only;rw[e2]
   rw[this,jp];rfl
  ·rw[bm (by intro z;injection z with z;exact e2 z)]
   show ltS (ps.headD z0).2 (qs.headD z0).2=_;unfold ltB rk;cases r<;>simp
 ·cases r<;>cases r'<;>first|exact absurd rfl e|skip
  ·rw[bm (by intro z;injection z with z;exact absurd (show(0:Int)=1 from z) (by decide))];rfl
  ·rw[bm (by intro z;injection z with z;exact absurd (show(1:Int)=0 from z) (by decide))];rfl
theorem BW{l:List aL}(h:l.Pairwise (fun a b=>ltB (rk b) (rk a)=false)):cx [.lst (l.map bgD)]=some (.lst (l.map bgD),true):=by
 have ca:CA 40 (l.map bgD):=fun a ha b hb=>by
  obtain⟨x,_,rfl⟩:=Qc.mp ha;obtain⟨y,_,rfl⟩:=Qc.mp hb;exact GF x y
 have so:l.map bgD=dZ 40 (l.map bgD):=gX ca (List.Perm.refl _) (by
  unfold Srt;rw[List.pairwise_map]
  exact h.imp fun {a b} z=>by rw[GG];exact z)
 have e:cx [.lst (l.map bgD)]=some (.lst (dZ 40 (l.map bgD)),true):=by
  have h0:(D.lst (l.map bgD)).seq=some (l.map bgD):=rfl;unfold cx;dsimp only;rw[h0];dsimp only;refine if_pos ⟨fun x hx=>?_,ca,⟨_,.tp (T:="int") fun d hd=>?_⟩⟩
  ·obtain⟨y,_,rfl⟩:=Qc.mp hx;exact CY 38 (CW y)
  ·obtain⟨y,_,rfl⟩:=Qc.mp hd;exact⟨_,_,rfl,fun z=>(by cases z),rfl⟩
 rw[e,← so]
end
end K08
namespace VF
open PySem L2
theorem oC(x:Str):jz (.str x) (.str x)=some (.bl false,false):=by
 have e1:wM true (.str x) (.str x)=some (.bl false,false):=by
  show some (D.bl (!decide (V.str x=V.str x)),false)=_;rw[decide_eq_true rfl];rfl
 unfold jz bNe orD;rw[e1]
theorem GH{i j:Int}{b:Bool}(h:b=true↔i=j):nO (.int i) (.int j)=some (.bl b,false):=by
 have e:bEq (.int i) (.int j)=some (.bl b,false):=by
  show some (D.bl (decide (V.int i=V.int j)),false)=_;congr 2;congr 1;rw[Qf,h,decide_eq_true_eq];exact⟨fun z=>V.int.inj z,fun z=>by rw[z]⟩
 unfold nO orD;rw[e]
end VF
namespace K08
open PySem L2 VF VL
noncomputable section
structure Cf(s:aL):Prop where
 ne:s.2≠[]
 nm:∀p∈s.2,Nm p.2
 ln:s.2.length<=100
 un:s.1=true∨s.2.length=1->(s.2.headD z0).1=false
 mn:s.1=true->(s.2.headD z0).2=fm (nms s.2)
 op:s.1=false->s.2.length≠1->ltS (s.2.getLastD z0).2 (s.2.headD z0).2=false
theorem GI{t:aL}(hs:t.2≠[])(hn:∀p∈t.2,Nm p.2)(hl:t.2.length<=100)(nd:(nms t.2).Nodup):Cf (cs t):=by
 obtain⟨f1,f2,f3⟩:=nc hs hn;obtain⟨r,ps⟩:=t;dsimp only at hs hn hl nd f3;cases r with
 | true =>
  obtain⟨u,b,v,e,hu,hv⟩:=EN hs nd;have ec:cr ps=(false,fm (nms ps))::(if b then cq u++cq v else v++u):=by
   generalize hm:fm (nms ps)=n at *;subst e;exact GE hm hu hv
  have em:fm (nms (cr ps))=fm (nms ps):=Ag hs (EO (s:=(true,ps)) hs).symm;refine⟨f1,f2,by lia,fun _=>?_,fun _=>?_,fun z=>(by cases z)⟩
  ·show((cr ps).headD z0).1=false;rw[ec];rfl
  ·show((cr ps).headD z0).2=fm (nms (cr ps));rw[em,ec];rfl
 | false =>
  refine⟨f1,f2,by lia,fun z=>?_,fun z=>(by cases z),fun _ c=>?_⟩
  ·have c:(co ps).length=1:=by
    rcases z with z|z
    ·cases z
    ·exact z
   have c':ps.length=1:=by
    have f3':(co ps).length=ps.length:=f3;lia
   show((co ps).headD z0).1=false;unfold co;rw[if_pos c'];rfl
  ·have c':ps.length≠1:=by
    have f3':(co ps).length=ps.length:=f3;have cc:(co ps).length≠1:=c;lia
   show ltS ((co ps).getLastD z0).2 ((co ps).headD z0).2=false;cases e1:ltS (ps.headD z0).2 (ps.getLastD z0).2 with
   | true =>
    have e:co ps=ps:=by unfold co;rw[if_neg c',if_pos e1]
    rw[e];cases e2:ltS (ps.getLastD z0).2 (ps.headD z0).2 with
    | false=>rfl
    | true =>
     have:=m5 e1 e2;rw[qM]at this;cases this
   | false =>
    have e:co ps=cq ps:=by unfold co;rw[if_neg c',if_neg (by rw[e1];exact Bool.noConfusion)]
    rw[e,sZ ps hs,p8 ps hs];exact e1
theorem uI{ss:List aL}(cf:∀s∈ss,Cf s)(hl:ss.length<=100)(hp:ss.Pairwise (fun a b=>ltB (rk b) (rk a)=false)):fI [.tup (ss.map stD)]=some (.bl true,false):=by
 have sp:∃B,fH=aS (bU (cX am) 1) (aS (jx (fIA (ai 0)) (VF.gT 2 (gsC (gN 2) (gsC (gN 3) gsN))) B) (bE (fOp nO (ai 1) (fCB cx (ae (ai 1) am))))) /\
   ∀(S:D)(bs:List aL)(s:aL)(s4:Sl),Cf s->bs.length<=300->s4.isIo=false->∃s4':Sl,B [.v S,.o (.lst (bs.map bgD)),.v (.str (kd s.1)),.v (.tup (s.2.map bdD)),s4]=some (.nx [.v S,.o (.lst ((bs++[s]).map bgD)),.v (.str (kd s.1)),.v (.tup (s.2.map bdD)),s4'])/\s4'.isIo=false:=by
  refine⟨_,rfl,fun S bs s s4 c hb q4=>?_⟩;obtain⟨r,ps⟩:=s;obtain⟨hs,hn,hlen,un,mn,op⟩:=c;dsimp only at hs hn hlen un mn op ⊢;have h0:=fT hs;have hL:=fU hs;have cm:db (gN 0) dB (fBM "str" iL (ai 0) (ae (fC (.str "-")) am)) 1 (ps.map bdD) [.e]=some ((nms ps).map D.str,[.e]):=by
   have:=cT (fg:=gN 0) (fc:=dB) (fe:=fBM "str" iL (ai 0) (ae (fC (.str "-")) am)) (k:=1) bdD (fun p=>D.str p.2) [.e] ps fun p hpp=>⟨[.v (bdD p)],[.v (bdD p)],.d (.str p.2),[.v (bdD p)],[.v (bdD p)],rfl,rfl,se rfl rfl rfl rfl rfl rfl (tf (hn p hpp)),rfl,rfl⟩;rw[this];unfold nms;rw[Xg];rfl
  have m0:(nms ps)[0]?=some (ps.headD z0).2:=by unfold nms;rw[Wc,h0];rfl
  have mL:(nms ps)[(nms ps).length-1]?=some (ps.getLastD z0).2:=by
   unfold nms;rw[Ya,Wc,hL];rfl
  generalize hP:ps.headD z0=p0 at *;generalize hQ:ps.getLastD z0=pl at *;generalize hN:D.lst ((nms ps).map D.str)=N;have n0:bIx N (.int 0)=some (.str p0.2,false):=hN ▸ gh (ia (i:=0) m0);have nL:bIx N (.int (-1))=some (.str pl.2,false):=hN ▸ gh (jv mL);have b0:bIx (.tup (ps.map bdD)) (.int 0)=some (bdD p0,false):=VF.ix_tup (ia (i:=0) h0);have len4:eU [.tup (ps.map bdD)]=some (.int ps.length,false):=by
   show some (D.int ((ps.map bdD).length:Nat),false)=_;rw[Ya]
  have bgE:bgD (r,ps)=.tup [.int (if r then 1 else 0),.str p0.2]:=by unfold bgD;dsimp only;rw[hP]
  refine⟨.o N,?_,rfl⟩;refine az (s:=[.v S,.o (.lst (bs.map bgD)),.v (.str (kd r)),.v (.tup (ps.map bdD)),.o N]) (gy (cY (s2:=[.e]) (iJ rfl rfl) (q8 (n:=100) (by rw[Ya];exact hlen) (by decide) rfl) cm) (by rw[hN];exact b7 rfl q4)) ?_
  have last:dR (fM isL cH 1 (ae (dC (ae (fBM "list" bIndex (cX (ae (fC (.str "open")) (ae (fC (.str "ring")) am))) (ae (ai 2) am)) (ae (fOp bIx (ai 4) (fC (.int 0))) am))) am)) [.v S,.o (.lst (bs.map bgD)),.v (.str (kd r)),.v (.tup (ps.map bdD)),.o N]=some (.nx [.v S,.o (.lst ((bs++[(r,ps)]).map bgD)),.v (.str (kd r)),.v (.tup (ps.map bdD)),.o N]):=by
   have ix:bIndex (.lst ([("open":Str),"ring"].map D.str)) [.str (kd r)]=some (.int (if r then 1 else 0),false):=by
    cases r with
    | true=>rw[oA (by decide +kernel)];exact congrArg (fun n:Nat=>some (D.int (n:Int),false)) (by decide +kernel:([("open":Str),"ring"].idxOf (kd true))=1)
    | false=>rw[oA (by decide +kernel)];exact congrArg (fun n:Nat=>some (D.int (n:Int),false)) (by decide +kernel:([("open":Str),"ring"].idxOf (kd false))=0)
   refine dX (mE rfl rfl rfl (ay (cj (ay (se (kr rfl rfl (by show 2<=1000000;decide)) rfl rfl rfl rfl rfl ix) (ay (aC rfl rfl rfl rfl n0) rfl)) rfl (by show 2<=1000000;decide)) rfl) rfl rfl rfl (gi ?_) ?_)
   ·rw[Ya];lia
   ·rw[Vc,Xf,bgE];rfl
  cases r with
  | true =>
   have u0:bdD p0=.str p0.2:=by
    have:=un (.inl rfl);obtain⟨t,n⟩:=p0;have:t=false:=this;subst this;rfl
   have mi:sP [N]=some (.str p0.2,false):=by rw[← hN,z9 (kw hs),← mn rfl]
   rw[u0]at b0;refine az (dM (s:=[.v S,.o (.lst (bs.map bgD)),.v (.str (kd true)),.v (.tup (ps.map bdD)),.o N]) (gz (s:=[.v S,.o (.lst (bs.map bgD)),.v (.str (kd true)),.v (.tup (ps.map bdD)),.o N]) rfl (D3 (aN (aC (aC rfl rfl rfl rfl n0) (bH rfl rfl mi) rfl rfl (oC _)) rfl) (aN (aC (aC rfl rfl rfl rfl b0) (aC rfl rfl rfl rfl n0) rfl rfl (oC _)) rfl))) rfl) ?_;refine az (dM (s:=[.v S,.o (.lst (bs.map bgD)),.v (.str (kd true)),.v (.tup (ps.map bdD)),.o N]) (lX rfl) rfl) (az (dM (s:=[.v S,.o (.lst (bs.map bgD)),.v (.str (kd true)),.v (.tup (ps.map bdD)),.o N]) (lX rfl) rfl) last)
  | false =>
   refine az (dM (s:=[.v S,.o (.lst (bs.map bgD)),.v (.str (kd false)),.v (.tup (ps.map bdD)),.o N]) (lX rfl) rfl) ?_;by_cases c1:ps.length=1
   ·have u0:bdD p0=.str p0.2:=by
     have:=un (.inr c1);obtain⟨t,n⟩:=p0;have:t=false:=this;subst this;rfl
    rw[u0]at b0;have g1:bGt (.int (ps.length:Int)) (.int 1)=some (.bl false,false):=by rw[c1];rfl
    refine az (dM (s:=[.v S,.o (.lst (bs.map bgD)),.v (.str (kd false)),.v (.tup (ps.map bdD)),.o N]) (gz (s:=[.v S,.o (.lst (bs.map bgD)),.v (.str (kd false)),.v (.tup (ps.map bdD)),.o N]) rfl (gz (s:=[.v S,.o (.lst (bs.map bgD)),.v (.str (kd false)),.v (.tup (ps.map bdD)),.o N]) (aN (aC (bH rfl rfl len4) rfl rfl rfl (GH (b:=true) (by simp[c1]))) rfl) (aN (aC (aC rfl rfl rfl rfl b0) (aC rfl rfl rfl rfl n0) rfl rfl (oC _)) rfl))) rfl) ?_
    exact az (dM (s:=[.v S,.o (.lst (bs.map bgD)),.v (.str (kd false)),.v (.tup (ps.map bdD)),.o N]) (gz (s:=[.v S,.o (.lst (bs.map bgD)),.v (.str (kd false)),.v (.tup (ps.map bdD)),.o N]) rfl (lX (aN (aC (bH rfl rfl len4) rfl rfl rfl g1) rfl))) rfl) last
   ·have g1:bGt (.int (ps.length:Int)) (.int 1)=some (.bl true,false):=by
     show some (D.bl (decide ((1:Int)<ps.length)),false)=_;rw[decide_eq_true (by have:=Vg.mpr hs;lia)]
    refine az (dM (s:=[.v S,.o (.lst (bs.map bgD)),.v (.str (kd false)),.v (.tup (ps.map bdD)),.o N]) (gz (s:=[.v S,.o (.lst (bs.map bgD)),.v (.str (kd false)),.v (.tup (ps.map bdD)),.o N]) rfl (lX (aN (aC (bH rfl rfl len4) rfl rfl rfl (GH (b:=false) (by simp;lia))) rfl))) rfl) ?_
    exact az (dM (s:=[.v S,.o (.lst (bs.map bgD)),.v (.str (kd false)),.v (.tup (ps.map bdD)),.o N]) (gz (s:=[.v S,.o (.lst (bs.map bgD)),.v (.str (kd false)),.v (.tup (ps.map bdD)),.o N]) rfl (gz (s:=[.v S,.o (.lst (bs.map bgD)),.v (.str (kd false)),.v (.tup (ps.map bdD)),.o N]) (aN (aC (bH rfl rfl len4) rfl rfl rfl g1) rfl) (aN (aC (aC rfl (oy rfl rfl rfl) rfl rfl nL) (aC rfl rfl rfl rfl n0) rfl rfl (lt_str (op rfl c1))) rfl))) rfl) last
 obtain⟨B,eF,hB⟩:=sp;obtain⟨sf,e,s2,s3,s4,rfl,q2,q3,q4⟩:=cZ (fg:=VF.gT 2 (gsC (gN 2) (gsC (gN 3) gsN))) (B:=B) stD ss
  (fun gone st=>∃(s2 s3 s4:Sl),st=[.v (.tup (ss.map stD)),.o (.lst (gone.map bgD)),s2,s3,s4]/\s2.isIo=false/\s3.isIo=false/\s4.isIo=false)
  (by
   rintro gone s rest st ha ⟨s2,s3,s4,rfl,q2,q3,q4⟩;have hm:s∈ss:=by rw[ha];simp
   have hg:gone.length<=100:=by have:=congrArg List.length ha;rw[Xa]at this;lia
   obtain⟨s4',eb,q4'⟩:=hB (.tup (ss.map stD)) gone s s4 (cf s hm) (by lia) q4
   refine⟨[.v (.tup (ss.map stD)),.o (.lst (gone.map bgD)),.v (.str (kd s.1)),.v (.tup (s.2.map bdD)),s4],_,?_,eb,.v (.str (kd s.1)),.v (.tup (s.2.map bdD)),s4',rfl,rfl,rfl,q4'⟩;show(if 2=2 then gsC (gN 2) (gsC (gN 3) gsN) [.str (kd s.1),.tup (s.2.map bdD)] _ else none)=_;rw[if_pos rfl];show(gN 2 (.str (kd s.1)) _).bind _=_;rw[show gN 2 (.str (kd s.1)) [.v (.tup (ss.map stD)),.o (.lst (gone.map bgD)),s2,s3,s4]=some [.v (.tup (ss.map stD)),.o (.lst (gone.map bgD)),.v (.str (kd s.1)),s3,s4] from b7 rfl q2];show(gN 3 (.tup (s.2.map bdD)) _).bind _=_;rw[show gN 3 (.tup (s.2.map bdD)) [.v (.tup (ss.map stD)),.o (.lst (gone.map bgD)),.v (.str (kd s.1)),s3,s4]=some [.v (.tup (ss.map stD)),.o (.lst (gone.map bgD)),.v (.str (kd s.1)),.v (.tup (s.2.map bdD)),s4] from b7 rfl q3]
   rfl)
  ss [] [.v (.tup (ss.map stD)),.o (.lst []),.e,.e,.e] rfl ⟨.e,.e,.e,rfl,rfl,rfl,rfl⟩
 have eqs:nO (.lst (ss.map bgD)) (.lst (ss.map bgD))=some (.bl true,false):=by
  have e1:bEq (.lst (ss.map bgD)) (.lst (ss.map bgD))=none:=rfl;have p:Pl 40 (.lst (ss.map bgD)):=.lst fun d hd=>by
   obtain⟨y,_,rfl⟩:=Qc.mp hd;exact CY 37 (CW y)
  unfold nO orD;rw[e1];unfold qB;dsimp only;rw[if_pos ⟨p,p⟩];simp
 refine bi (o:=.rt (.d (.bl true)) [.v (.tup (ss.map stD)),.o (.lst (ss.map bgD)),s2,s3,s4]) rfl ?_ rfl;rw[eF];exact az rfl (az (f7 (iJ rfl rfl) e) (aZ (aC rfl (bH rfl rfl (BW hp)) rfl rfl eqs)))
theorem EQ{ss:List aL}(h:ss.length<=1000)(h2:∀s∈ss,s.2.length<=1000):Dp 4 (.tup (ss.map stD)) :=
 .tup (by rw[Ya];lia) fun d hd=>by
  obtain⟨s,hs,rfl⟩:=Qc.mp hd;refine .tup (by show 2<=1000000;decide) fun d hd=>?_
  rcases Ze.mp hd with rfl|hd
  ·exact .str _ _
  ·obtain rfl:=Wb.mp hd;refine .tup (by rw[Ya];have:=h2 s hs;lia) fun d hd=>?_
   obtain⟨p,_,rfl⟩:=Qc.mp hd;exact .str _ _
theorem neJ{js:List Jnt}:jz (.tup (js.map jD)) (.tup (js.map jD))=some (.bl false,false):=by
 have p:Pl 40 (.tup (js.map jD)):=.tup fun d hd=>by
  obtain⟨j,_,rfl⟩:=Qc.mp hd;exact CQ 36 j
 cases js with
 | nil =>
  have e1:bNe (.tup (([]:List Jnt).map jD)) (.tup (([]:List Jnt).map jD))=none∨bNe (.tup (([]:List Jnt).map jD)) (.tup (([]:List Jnt).map jD))=some (.bl false,false):=by
   first
    | exact .inl rfl
    | exact .inr rfl
  unfold jz orD;rcases e1 with e1|e1
  ·rw[e1];show qB true _ _=_;unfold qB;rw[if_pos ⟨p,p⟩];simp
  ·rw[e1]
 | cons j r =>
  have e1:bNe (.tup ((j::r).map jD)) (.tup ((j::r).map jD))=none:=rfl;unfold jz orD;rw[e1];unfold qB;dsimp only;rw[if_pos ⟨p,p⟩];simp
theorem wc:∀{ss:List aL},(∀s∈ss,s.2≠[])->(∀s∈ss,∀p∈s.2,Nm p.2)->((ss.map cs).flatMap (·.2)).length=(ss.flatMap (·.2)).length
 | [],_,_=>rfl
 | s::r,h1,h2=>by
  rw[Xf,Vf,Vf,Xa,Xa,(nc (h1 s Zc) (h2 s Zc)).2.2,wc (fun x hx=>h1 x (Xb _ hx)) fun x hx=>h2 x (Xb _ hx)]
end
end K08
namespace VF
open PySem L2
theorem ib{ds:List D}{i:Nat}{d:D}(h:ds[i]?=some d):bIx (.tup ds) (.int i)=some (d,false):=VF.ix_tup (jf h)
theorem ES{xs ys:List D}{c:Bool}(ne:xs≠[])(pa:Pl 40 (.tup xs))(pb:Pl 40 (.tup ys))(h:c=true↔D.tup xs=D.tup ys):jz (.tup xs) (.tup ys)=some (.bl (!c),false):=by
 have e1:bNe (.tup xs) (.tup ys)=none:=by
  cases xs with
  | nil=>exact absurd rfl ne
  | cons _ _=>rfl
 unfold jz orD;rw[e1];unfold qB;dsimp only;have dc:∀i:Decidable (D.tup xs=D.tup ys),@decide _ i=c:=fun i=>by rw[Qf,decide_eq_true_eq];exact h.symm
 rw[if_pos ⟨pa,pb⟩,dc];rfl
end VF
namespace K08
open PySem L2 VF VL VF22
theorem GJ{j:Jnt}(h:j.length=1∨j.length=2):(∃a,j=[a])∨∃a b,j=[a,b]:=by
 cases j with
 | nil=>rcases h with z|z<;>cases z
 | cons a r =>
  cases r with
  | nil=>exact .inl ⟨a,rfl⟩
  | cons b r =>
   cases r with
   | nil=>exact .inr ⟨a,b,rfl⟩
   | cons c r =>
    rw[Qd,Qd,Qd]at h;lia
theorem BX(e:End)(es:Jnt):bIx (jD (e::es)) (.int 0)=some (eD e,false):=ib (i:=0) rfl
theorem GW(e f:End)(es:Jnt):bIx (jD (e::f::es)) (.int 1)=some (eD f,false):=ib (i:=1) rfl
theorem lf(es:List End):(bR es).length=es.length:=(bJ es).2.length_eq
theorem Ak(a b:End):bR [a,b]=bR [b,a]:=dI (List.Perm.swap b a [])
theorem ET(j:Jnt):eU [jD j]=some (.int (j.length:Int),false):=by
 show some (D.int (((j.map eD).length:Nat):Int),false)=_;rw[Ya]
noncomputable def J12(js:List Jnt):Prop:=∀j∈js,j.length=1∨j.length=2
theorem Al{f:FE}{st s:En}{r:Rs}{i:Int}(h:f st=some (r,s))(c:cont s r=some (.int i)):aH (fOp bEq f (fC (.int i))) st=some (true,s):=by
 refine aN (aC h rfl c rfl (z:=(.bl true,false)) ?_) rfl;show some (D.bl (decide (V.int i=V.int i)),false)=_;rw[decide_eq_true rfl]
theorem CZ{f:FE}{st s:En}{r:Rs}{i j:Int}(h:f st=some (r,s))(c:cont s r=some (.int i))(ne:i≠j):aH (fOp bEq f (fC (.int j))) st=some (false,s):=by
 refine aN (aC h rfl c rfl (z:=(.bl false,false)) ?_) rfl;show some (D.bl (decide (V.int i=V.int j)),false)=_;rw[decide_eq_false fun z=>ne (by injection z)]
theorem neE{a b:End}:jz (eD a) (eD b)=some (.bl (!decide (a=b)),false):=by
 refine ES (by simp) (vY 38 a) (vY 38 b) ?_
 rw[decide_eq_true_eq];exact⟨fun h=>by rw[h],fun h=>by have:=congrArg unE h;exact this⟩
end K08
namespace K08
open PySem L2 VF VL VF22
theorem i5{α:Type}:∀{js:List (List α)},js.flatten.Nodup->∀{j j':List α}{e:α},j∈js->j'∈js->e∈j->e∈j'->j=j'
 | [],_,_,_,_,h,_,_,_=>nomatch h
 | k::r,nd,j,j',e,h,h',he,he'=>by
  rw[List.flatten_cons,Qh]at nd;obtain⟨_,n2,n3⟩:=nd;rcases Ze.mp h with a|a<;>rcases Ze.mp h' with b|b
  ·rw[a,b]
  ·exact absurd rfl (n3 e (a ▸ he) e (Zj.mpr ⟨j',b,he'⟩))
  ·exact absurd rfl (n3 e (b ▸ he') e (Zj.mpr ⟨j,a,he⟩))
  ·exact i5 n2 a b he he'
theorem tj{α:Type}:∀{js:List (List α)},js.flatten.Nodup->∀{j:List α},j∈js->j.Nodup
 | [],_,_,h=>nomatch h
 | k::r,nd,j,h=>by
  rw[List.flatten_cons,Qh]at nd;rcases Ze.mp h with rfl|h
  ·exact nd.1
  ·exact tj nd.2.1 h
theorem oD{α:Type}:∀{js:List (List α)},js.flatten.Nodup->(∀j∈js,j≠[])->js.Nodup
 | [],_,_=>List.nodup_nil
 | k::r,nd,h=>by
  rw[List.flatten_cons,Qh]at nd;refine Vk.mpr ⟨fun hk=>?_,oD nd.2.1 fun j hj=>h j (Xb _ hj)⟩;cases e:k with
  | nil=>exact h k Zc e
  | cons a t =>
   have:a∈k:=by rw[e];exact Zc
   exact nd.2.2 a this a (Zj.mpr ⟨k,hk,this⟩) rfl
structure Js(js:List Jnt)(xs:List Str):Prop where
 ln:J12 js
 pf:js.flatten.Perm (xs.map zero++xs.map one)
 so:∀j∈js,bR j=j
 nx:xs.Nodup
section
variable {js:List Jnt}{xs:List Str}
theorem BY(h:xs.Nodup):(xs.map zero++xs.map one).Nodup:=by
 refine Qh.mpr ⟨?_,?_,fun a ha b hb e=>?_⟩
 ·show List.Pairwise _ _;rw[List.pairwise_map];exact h.imp fun n e=>n (congrArg Prod.fst e)
 ·show List.Pairwise _ _;rw[List.pairwise_map];exact h.imp fun n e=>n (congrArg Prod.fst e)
 ·obtain⟨x,_,rfl⟩:=Qc.mp ha;obtain⟨y,_,rfl⟩:=Qc.mp hb;have:(0:Int)=1:=congrArg Prod.snd e;lia
theorem Js.nd(J:Js js xs):js.flatten.Nodup:=J.pf.nodup_iff.mpr (BY J.nx)
theorem tm{e:End}:e∈xs.map zero++xs.map one↔e.1∈xs/\(e.2=0∨e.2=1):=by
 obtain⟨n,i⟩:=e;constructor
 ·intro h;rcases Xc.mp h with h|h<;>(obtain⟨x,hx,e⟩:=Qc.mp h;cases e)
  ·exact⟨hx,.inl rfl⟩
  ·exact⟨hx,.inr rfl⟩
 ·rintro⟨h,h2⟩;dsimp only at h h2;rcases h2 with rfl|rfl
  ·exact Vi _ (Qc.mpr ⟨n,h,rfl⟩)
  ·exact Wd _ (Qc.mpr ⟨n,h,rfl⟩)
theorem Js.en(J:Js js xs){e:End}:e∈js.flatten↔e.1∈xs/\(e.2=0∨e.2=1):=J.pf.mem_iff.trans tm
noncomputable def Mt(js:List Jnt)(e f:End):Prop:=bR [e,f]∈js
theorem Am(e f:End):e∈bR [e,f]:=(bJ [e,f]).2.mem_iff.mpr (by simp)
theorem An(e f:End):f∈bR [e,f]:=(bJ [e,f]).2.mem_iff.mpr (by simp)
theorem Mt.sym{e f:End}(h:Mt js e f):Mt js f e:=by unfold Mt;rw[Ak];exact h
theorem Mt.uni(J:Js js xs){e f g:End}(h:Mt js e f)(h':Mt js e g):f=g:=by
 have:=i5 J.nd h h' (Am e f) (Am e g);have p:[e,f].Perm [e,g]:=(bJ _).2.symm.trans ((List.Perm.of_eq this).trans (bJ _).2);have:=List.Perm.cons_inv p;simpa using this.singleton_eq
theorem Mt.irr(J:Js js xs){e:End}(h:Mt js e e):False:=by
 have:=(bJ [e,e]).2.nodup_iff.mp (tj J.nd h);simp at this
theorem Mt.free(J:Js js xs){e f:End}(h:Mt js e f)(h':[f]∈js):False:=by
 have:=i5 J.nd h h' (An e f) (by simp)
 have:=congrArg List.length this;rw[lf]at this;simp at this
theorem Mt.end(J:Js js xs){e f:End}(h:Mt js e f):f.1∈xs/\(f.2=0∨f.2=1):=J.en.mp (Zj.mpr ⟨_,h,An e f⟩)
noncomputable def eJ(e:End):Bd:=(decide (e.2=1),e.1)
theorem rd{e:End}(h:e.2=0∨e.2=1):leE (eJ e)=e:=by
 obtain⟨n,i⟩:=e;dsimp only at h;rcases h with rfl|rfl<;>rfl
theorem GK(p:Bd):leE p≠riE p:=fun h=>by
 obtain⟨t,n⟩:=p;have:=congrArg Prod.snd h;cases t<;>(simp[leE,riE]at this)
theorem GL{e:End}{q:Bd}(h:e.2=0∨e.2=1)(hn:e.1=q.2):e=leE q∨e=riE q:=by
 obtain⟨n,i⟩:=e;obtain⟨t,m⟩:=q;dsimp only at h hn;subst hn;rcases h with rfl|rfl<;>cases t
 ·exact .inl rfl
 ·exact .inr rfl
 ·exact .inr rfl
 ·exact .inl rfl
theorem EU(p:Bd):(riE p).2=0∨(riE p).2=1:=by obtain⟨t,n⟩:=p;cases t<;>simp[riE]
theorem Ao{ps:List Bd}{i:Nat}{p q:Bd}(h1:ps[i]?=some p)(h2:ps[i+1]?=some q):Jn p q∈inn ps:=by
 refine Qc.mpr ⟨(p,q),Wa (i:=i) ?_,rfl⟩;rw[List.getElem?_zip_eq_some];exact⟨h1,by rw[Wf,Nat.add_comm];exact h2⟩
structure Wk(js:List Jnt)(xs:List Str)(S:Str->Prop)(ps:List Bd):Prop where
 ne:ps≠[]
 ij:∀j∈inn ps,j∈js
 nd:(ps.map (·.2)).Nodup
 xs:∀p∈ps,p.2∈xs
 ns:∀p∈ps,¬ S p.2
variable {S:Str->Prop}{ps:List Bd}
theorem Ap(nd:(ps.map (·.2)).Nodup){i k:Nat}{p q:Bd}(h1:ps[i]?=some p)(h2:ps[k]?=some q)(e:p.2=q.2):i=k:=by
 have hi:i<(ps.map (·.2)).length:=by rw[Ya];exact(Yb.mp h1).1
 refine(List.getElem?_inj hi nd).mp ?_;rw[Wc,Wc,h1,h2];show some p.2=some q.2;rw[e]
theorem Aq(J:Js js xs)(W:Wk js xs S ps){e:End}(m:Mt js (riE (ps.getLastD z0)) e)(hb:e≠leE (ps.headD z0)):e.1∉ps.map (·.2):=by
 intro hm;obtain⟨q,hq,hn⟩:=Qc.mp hm;obtain⟨i,hi⟩:=Yl hq;have hl:=fU W.ne;have li:=(Yb.mp hi).1;rcases GL (m.end J).2 hn.symm with z|z
 ·cases i with
  | zero =>
   rw[fT W.ne]at hi;cases hi;exact hb z
  | succ k =>
   have hk:ps[k]?=some ps[k]:=Za (by lia)
   have m2:Mt js (riE ps[k]) (leE q):=W.ij _ (Ao hk hi);rw[← z]at m2;have e1:=Mt.uni J m2.sym m.sym;have:=Ap W.nd hk hl (congrArg Prod.fst e1);lia
 ·by_cases c:i=ps.length-1
  ·rw[c,hl]at hi;cases hi;rw[z]at m;exact m.irr J
  ·obtain⟨r,hk⟩:∃r,ps[i+1]?=some r:=⟨_,Za (by lia)⟩
   have m2:Mt js (riE q) (leE r):=W.ij _ (Ao hi hk);rw[z]at m;have e1:=Mt.uni J m2 m.sym;have:=Ap W.nd hk hl (congrArg Prod.fst e1);rw[this,hl]at hk;have h2:=Option.some.inj hk;rw[← h2]at e1;exact GK _ e1
theorem Wk.step(J:Js js xs)(cl:∀e f,Mt js e f->S f.1->S e.1)(W:Wk js xs S ps){e:End}(m:Mt js (riE (ps.getLastD z0)) e)(hb:e≠leE (ps.headD z0)):Wk js xs S (ps++[eJ e])/\leE (eJ e)=e:=by
 have nn:=Aq J W m hb;have le:=rd (m.end J).2;have lm:ps.getLastD z0∈ps:=Wa (fU W.ne);refine⟨⟨by simp,fun j hj=>?_,?_,fun p hp=>?_,fun p hp=>?_⟩,le⟩
 ·rw[k0 ps _ [] W.ne]at hj;rcases Xc.mp hj with hj|hj
  ·exact W.ij j hj
  ·have:j=Jn (ps.getLastD z0) (eJ e):=by
    rcases Ze.mp hj with z|z
    ·exact z
    ·cases z
   rw[this];unfold Jn;rw[le];exact m
 ·rw[Vc,Qh]
  exact⟨W.nd,by simp,fun a ha b hb z=>by
   have:b=e.1:=Wb.mp hb;subst this;subst z
   exact nn ha⟩
 ·rcases Xc.mp hp with hp|hp
  ·exact W.xs p hp
  ·rw[Wb.mp hp];exact(m.end J).1
 ·rcases Xc.mp hp with hp|hp
  ·exact W.ns p hp
  ·rw[Wb.mp hp];exact fun z=>W.ns _ lm (cl _ _ m z)
theorem Wk.len(W:Wk js xs S ps):ps.length<=xs.length:=by
 have:=kH (ps.map (·.2)) xs W.nd fun x hx=>by
  obtain⟨p,hp,rfl⟩:=Qc.mp hx;exact W.xs p hp
 rwa [Ya]at this
end
noncomputable def nmz(ss:List aL):List Str:=(ss.flatMap (·.2)).map (·.2)
section
variable {js:List Jnt}{xs:List Str}{ss:List aL}
theorem BZ{bs:List Bd}{e:End}:e∈gE bs↔e.1∈bs.map (·.2)/\(e.2=0∨e.2=1):=(ku bs).mem_iff.trans tm
theorem qa(ne:∀s∈ss,s.2≠[]){e:End}:e∈(ss.flatMap sj).flatten↔e.1∈nmz ss/\(e.2=0∨e.2=1):=(lR ne).mem_iff.trans BZ
theorem re(J:Js js xs)(ne:∀s∈ss,s.2≠[])(sub:∀j∈ss.flatMap sj,j∈js):∀e f,Mt js e f->f.1∈nmz ss->e.1∈nmz ss:=by
 intro e f m hf;have h1:=(qa ne).mpr ⟨hf,(m.end J).2⟩;obtain⟨j,hj,hfj⟩:=Zj.mp h1;have:=i5 J.nd (sub j hj) m hfj (An e f);have h2:e∈(ss.flatMap sj).flatten:=Zj.mpr ⟨j,hj,by rw[this];exact Am e f⟩
 exact((qa ne).mp h2).1
theorem xp(J:Js js xs)(ne:∀s∈ss,s.2≠[])(sub:∀j∈ss.flatMap sj,j∈js)(pm:(nmz ss).Perm xs):(ss.flatMap sj).Perm js:=by
 have pf:((ss.flatMap sj).flatten).Perm js.flatten:=((lR ne).trans ((ku _).trans ((pm.map zero).append (pm.map one)))).trans J.pf.symm;have nd:=pf.nodup_iff.mpr J.nd;have e1:∀j∈ss.flatMap sj,j≠[]:=fun j hj=>by
  obtain⟨s,_,h⟩:=List.mem_flatMap.mp hj;exact zT h
 have e2:∀j∈js,j≠[]:=fun j hj z=>by
  have:=J.ln j hj;rw[z]at this;simp at this
 refine(List.perm_ext_iff_of_nodup (oD nd e1) (oD J.nd e2)).mpr fun j=>⟨sub j,fun hj=>?_⟩;cases e:j with
 | nil=>exact absurd e (e2 j hj)
 | cons a t =>
  have ha:a∈j:=by rw[e];exact Zc
  obtain⟨j',hj',ha'⟩:=Zj.mp (pf.mem_iff.mpr (Zj.mpr ⟨j,hj,ha⟩));rw[← e,i5 J.nd hj (sub j' hj') ha ha'];exact hj'
end
end K08
namespace K08
open PySem L2 VF VL VF22
noncomputable def kE(e:End):List Key:=[.inr e.1,.inl e.2]
theorem Ar{a b:End}(h:kE a=kE b):a=b:=by
 obtain⟨n,i⟩:=a;obtain⟨m,j⟩:=b;unfold kE at h;dsimp only at h;injection h with h1 h2;injection h2 with h3 _;injection h1 with h1;injection h3 with h3;rw[h1,h3]
section
variable {κ:Type}[DecidableEq κ]
theorem oE{kvs:List (κ×D)}{k:κ}{d:D}(h:k∉kvs.map (·.1)):cI (kvs++[(k,d)]) k=some d:=by
 unfold cI;rw[List.find?_append];have:kvs.find? (fun kv=>decide (kv.1=k))=none:=List.find?_eq_none.mpr fun x hx z=>h (Qc.mpr ⟨x,hx,of_decide_eq_true z⟩);rw[this];rw[Option.none_or,Xl,decide_eq_true rfl];rfl
theorem di{kvs:List (κ×D)}{k k':κ}{d d':D}(h:cI kvs k=some d):cI (kvs++[(k',d')]) k=some d:=by
 unfold cI at h ⊢;obtain⟨x,h1,h2⟩:=Xd.mp h;rw[List.find?_append,h1];show some x.2=_;rw[h2]
theorem B0{kvs:List (κ×D)}{k:κ}:(cI kvs k).isSome=decide (k∈kvs.map (·.1)):=by
 unfold cI;rw[Option.isSome_map];by_cases c:k∈kvs.map (·.1)
 ·rw[decide_eq_true c];obtain⟨x,hx,e⟩:=Qc.mp c;exact List.find?_isSome.mpr ⟨x,hx,decide_eq_true e⟩
 ·rw[decide_eq_false c];have:kvs.find? (fun kv=>decide (kv.1=k))=none:=List.find?_eq_none.mpr fun x hx z=>c (Qc.mpr ⟨x,hx,of_decide_eq_true z⟩);rw[this];rfl
theorem rf{kvs:List (κ×D)}{k:κ}{d:D}(h:k∉kvs.map (·.1)):iw kvs k d=kvs++[(k,d)]:=by
 unfold iw;rw[if_neg];intro z;obtain⟨x,hx,e⟩:=List.any_eq_true.mp z;exact h (Qc.mpr ⟨x,hx,of_decide_eq_true e⟩)
theorem As{kvs:List (κ×D)}{k:κ}{d:D}:∀x,x∈(iw kvs k d).map (·.1)↔x=k∨x∈kvs.map (·.1):=fun x=>by
 unfold iw;by_cases c:(kvs.any fun kv=>decide (kv.1=k))=true
 ·rw[if_pos c,Xg];have e:(kvs.map ((fun x:κ×D=>x.1) ∘ fun kv=>if kv.1=k then(kv.1,d) else kv))=kvs.map (·.1):=Xk fun kv _=>by
   show(if kv.1=k then(kv.1,d) else kv).1=kv.1;split<;>rfl
  rw[e];refine⟨.inr,fun h=>h.elim (fun z=>?_) id⟩;obtain⟨y,hy,e⟩:=List.any_eq_true.mp c;rw[z];exact Qc.mpr ⟨y,hy,of_decide_eq_true e⟩
 ·rw[if_neg c,Vc,Xc];show x∈_∨x∈[k]↔_;rw[Wb];exact Or.comm
theorem B1{kvs:List (κ×D)}{k:κ}{d:D}:(iw kvs k d).length<=kvs.length+1:=by
 unfold iw;split
 ·rw[Ya];lia
 ·rw[Xa];exact Va _
end
theorem xq{κ:Type}[DecidableEq κ]{kvs:List (κ×D)}{k:κ}{d d':D}(h:k∉kvs.map (·.1)):iw (kvs++[(k,d)]) k d'=kvs++[(k,d')]:=by
 have c:((kvs++[(k,d)]).any fun kv=>decide (kv.1=k))=true:=by rw[List.any_append];simp
 unfold iw;rw[if_pos c,Vc];congr 1
 ·refine(Xk fun kv hk=>?_).trans (List.map_id kvs);exact if_neg fun z=>h (Qc.mpr ⟨kv,hk,z⟩)
 ·show [if k=k then(k,d') else(k,d)]=_;rw[if_pos rfl]
structure Sd(js:List Jnt)(kvs:List (List Key×D)):Prop where
 ks:kvs.map (·.1)=js.flatten.map kE
 a1:∀a,[a]∈js->cI kvs (kE a)=some .non
 a2:∀a b,[a,b]∈js->cI kvs (kE a)=some (eD b)/\cI kvs (kE b)=some (eD a)
section
variable {js:List Jnt}{xs:List Str}{kvs:List (List Key×D)}{S:Str->Prop}
theorem rj{e:End}{d:D}(h:cI kvs (kE e)=some d):kO (.dt kvs) (eD e)=some (d,false):=by
 show((some (cI kvs (kE e))).bind fun o=>o.bind fun d=>some (d,false))=_;rw[h];rfl
theorem Sd.two(J:Js js xs)(T:Sd js kvs){e:End}(h:e∈js.flatten):([e]∈js/\cI kvs (kE e)=some .non)∨∃f,Mt js e f/\cI kvs (kE e)=some (eD f):=by
 obtain⟨j,hj,he⟩:=Zj.mp h;rcases GJ (J.ln j hj) with⟨a,rfl⟩|⟨a,b,rfl⟩
 ·rw[Wb.mp he];exact .inl ⟨hj,T.a1 a hj⟩
 ·obtain⟨h1,h2⟩:=T.a2 a b hj;have m:Mt js a b:=by unfold Mt;rw[J.so _ hj];exact hj
  rcases Ze.mp he with z|z
  ·rw[z];exact .inr ⟨b,m,h1⟩
  ·rw[Wb.mp z];exact .inr ⟨a,m.sym,h2⟩
theorem B2{e:End}{d:D}(h:kvs.length<100000):pV (.dt kvs) (eD e) d=some (.dt (iw kvs (kE e) d)):=by
 show(if kvs.length<100000 then some (D.dt (iw kvs (kE e) d)) else none)=_;rw[if_pos h]
noncomputable abbrev bS(js:List Jnt)(k:List (List Key×D))(s2:Sl):En:=[.v (.tup (js.map jD)),.o (.dt k),s2]
theorem xt(h12:J12 js)(nd:js.flatten.Nodup)(hl:js.flatten.length<1000):∃kvs,f9 [.tup (js.map jD)]=some (.dt kvs,true)/\Sd js kvs:=by
 obtain⟨sf,el,k,t2,rfl,T,i2⟩:=cZ (fg:=gN 2) (B:=im) jD js (fun g st=>∃k s2,st=(bS js k s2)/\Sd g k/\s2.isIo=false)
  (by
   rintro g j r st ha ⟨k,s2,rfl,T,i2⟩;have e1:js.flatten=(g.flatten++j)++r.flatten:=by rw[ha,Vm,List.flatten_cons];simp
   rw[e1,Qh]at nd;rw[e1,Xa,Xa]at hl;have nd:=nd.1;have kl:k.length=g.flatten.length:=by
    have:=congrArg List.length T.ks;rwa [Ya,Ya]at this
   have hk:∀e,e∉g.flatten->kE e∉k.map (·.1):=fun e he z=>by
    rw[T.ks]at z;obtain⟨f,hf,e'⟩:=Qc.mp z;exact he (Ar e' ▸ hf)
   rw[Qh]at nd;rcases GJ (h12 j (by rw[ha];simp)) with⟨a,rfl⟩|⟨a,b,rfl⟩
   ·have na:=hk a fun z=>nd.2.2 a z a (by simp) rfl
    have v:∀(o:D)(f:FE),fIf (aH (fOp bEq (fCB eU (ae (ai 2) am)) (fC (.int 2)))) f (fC .non) [.v (.tup (js.map jD)),.o o,.v (jD [a])]=some (.d .non,[.v (.tup (js.map jD)),.o o,.v (jD [a])]):=fun o f=>lY (CZ (i:=1) (bH rfl rfl (ET [a])) rfl (by decide)) rfl
    have il:bIx (jD [a]) (.int (-1))=some (eD a,false):=VF.ix_tup (jv (xs:=[a]) rfl);refine⟨(bS js k (.v (jD [a]))),(bS js (k++[(kE a,.non)]) (.v (jD [a]))),b7 (t:=s2) rfl i2,?_,k++[(kE a,.non)],.v (jD [a]),rfl,⟨?_,fun c hc=>?_,fun c d hc=>?_⟩,rfl⟩
    ·refine az (s:=(bS js (k++[(kE a,.non)]) (.v (jD [a])))) (iW (v _ _) rfl rfl rfl (aC rfl rfl rfl rfl (BX a [])) rfl rfl rfl (by rw[B2 (by lia),rf na])) ?_
     exact iW (v _ _) rfl rfl rfl (aC rfl (oy rfl rfl rfl) rfl rfl il) rfl rfl rfl (by rw[B2 (by rw[Xa,Qg];lia),xq na])
    ·rw[Vc,T.ks,Vm,Vc];rfl
    ·rcases Xc.mp hc with z|z
     ·exact di (T.a1 c z)
     ·cases Wb.mp z;exact oE na
    ·rcases Xc.mp hc with z|z
     ·exact⟨di (T.a2 c d z).1,di (T.a2 c d z).2⟩
     ·cases Wb.mp z
   ·have na:=hk a fun z=>nd.2.2 a z a (by simp) rfl
    have nb:=hk b fun z=>nd.2.2 b z b (by simp) rfl
    have ab:a≠b:=fun z=>by
     have:=nd.2.1;rw[z]at this;simp at this
    have nb2:kE b∉(k++[(kE a,eD b)]).map (·.1):=by
     rw[Vc];intro z;rcases Xc.mp z with z|z
     ·exact nb z
     ·exact ab (Ar (Wb.mp z).symm)
    have il:bIx (jD [a,b]) (.int (-1))=some (eD b,false):=VF.ix_tup (jv (xs:=[a,b]) rfl);have v1:∀o:D,fIf (aH (fOp bEq (fCB eU (ae (ai 2) am)) (fC (.int 2)))) (fOp bIx (ai 2) (fC (.int 1))) (fC .non) [.v (.tup (js.map jD)),.o o,.v (jD [a,b])]=some (.d (eD b),[.v (.tup (js.map jD)),.o o,.v (jD [a,b])]):=fun o=>kN (Al (i:=2) (bH rfl rfl (ET [a,b])) rfl) (aC rfl rfl rfl rfl (GW a b []));have v2:∀o:D,fIf (aH (fOp bEq (fCB eU (ae (ai 2) am)) (fC (.int 2)))) (fOp bIx (ai 2) (fC (.int 0))) (fC .non) [.v (.tup (js.map jD)),.o o,.v (jD [a,b])]=some (.d (eD a),[.v (.tup (js.map jD)),.o o,.v (jD [a,b])]):=fun o=>kN (Al (i:=2) (bH rfl rfl (ET [a,b])) rfl) (aC rfl rfl rfl rfl (BX a [b]));refine⟨(bS js k (.v (jD [a,b]))),(bS js ((k++[(kE a,eD b)])++[(kE b,eD a)]) (.v (jD [a,b]))),b7 (t:=s2) rfl i2,?_,(k++[(kE a,eD b)])++[(kE b,eD a)],.v (jD [a,b]),rfl,⟨?_,fun c hc=>?_,fun c d hc=>?_⟩,rfl⟩
    ·refine az (s:=(bS js (k++[(kE a,eD b)]) (.v (jD [a,b])))) (iW (v1 _) rfl rfl rfl (aC rfl rfl rfl rfl (BX a [b])) rfl rfl rfl (by rw[B2 (by lia),rf na])) ?_
     exact iW (v2 _) rfl rfl rfl (aC rfl (oy rfl rfl rfl) rfl rfl il) rfl rfl rfl (by rw[B2 (by rw[Xa,Qg];lia),rf nb2])
    ·rw[Vc,Vc,T.ks,Vm,Vc,Vd];rfl
    ·rcases Xc.mp hc with z|z
     ·exact di (di (T.a1 c z))
     ·cases Wb.mp z
    ·rcases Xc.mp hc with z|z
     ·exact⟨di (di (T.a2 c d z).1),di (di (T.a2 c d z).2)⟩
     ·cases Wb.mp z
      exact⟨di (oE na),oE nb2⟩)
  js [] (bS js [] .e) rfl ⟨[],.e,rfl,⟨rfl,(fun a hj=>by cases hj),fun a b hj=>by cases hj⟩,rfl⟩
 exact⟨k,bi (o:=.rt (.s 1) (bS js k t2)) rfl (az rfl (az (f7 (iJ rfl rfl) el) rfl)) rfl,T⟩
theorem GM(p:Bd):riE p=((leE p).1,1-(leE p).2):=by obtain⟨t,n⟩:=p;cases t<;>rfl
theorem wd{p:Bd}(h:Nm p.2):jr [eD (leE p)]=some (bdD p,false):=by
 obtain⟨t,n⟩:=p;have i0:bIx (eD (leE (t,n))) (.int 0)=some (bdD (false,n),false):=ib (i:=0) rfl;have i1:bIx (eD (leE (t,n))) (.int 1)=some (.int (if t then 1 else 0),false):=ib (i:=1) rfl;refine bi (o:=.rt (.d (bdD (t,n))) [.v (eD (leE (t,n)))]) rfl (aZ ?_) rfl;cases t with
 | false=>exact kN (Al (i:=0) (aC rfl rfl rfl rfl i1) rfl) (aC rfl rfl rfl rfl i0)
 | true=>exact lY (CZ (i:=1) (aC rfl rfl rfl rfl i1) rfl (by decide)) (bx (ay (aC rfl rfl rfl rfl i0) rfl) rfl (uF (t:=false) h) rfl)
theorem qb(p:Bd):kU [eD (leE p)]=some (eD (riE p),false):=by
 have i0:bIx (eD (leE p)) (.int 0)=some (.str (leE p).1,false):=ib (i:=0) rfl;have i1:bIx (eD (leE p)) (.int 1)=some (.int (leE p).2,false):=ib (i:=1) rfl;rw[GM];exact bi (o:=.rt (.d (eD ((leE p).1,1-(leE p).2))) [.v (eD (leE p))]) rfl (aZ (cj (ay (aC rfl rfl rfl rfl i0) (ay (aC rfl (aC rfl rfl rfl rfl i1) rfl rfl rfl) rfl)) rfl (by simp))) rfl
theorem At{ps:List Bd}{q:Bd}(h:ps≠[]):(ps++[q]).headD z0=ps.headD z0:=by
 cases ps with
 | nil=>exact absurd rfl h
 | cons _ _=>rfl
open Classical in
noncomputable def wkF(M:End->End->Prop)(b:End):Nat->List Bd->List Bd
 | 0,ps=>ps
 | n+1,ps=>if h:∃f,M (riE (ps.getLastD z0)) f/\f≠b then wkF M b n (ps++[eJ h.choose]) else ps
structure Fd(js:List Jnt)(xs:List Str)(S:Str->Prop)(b:End)(ps:List Bd):Prop where
 wk:Wk js xs S ps
 hd:leE (ps.headD z0)=b
 la:[riE (ps.getLastD z0)]∈js∨Mt js (riE (ps.getLastD z0)) b
noncomputable abbrev wS(b:End)(kvs:List (List Key×D))(ps:List Bd)(d:D):En:=[.v (eD b),.v (.dt kvs),.o (.lst (ps.map bdD)),.v d]
theorem B3(J:Js js xs)(T:Sd js kvs)(cl:∀e f,Mt js e f->S f.1->S e.1)(nm:∀x∈xs,Nm x)(hx:xs.length<=60){b:End}(hb:b∈js.flatten)(hs:¬ S b.1):fq [eD b,.dt kvs]=some (.tup ((wkF (Mt js) b 69 [eJ b]).map bdD),false)/\Fd js xs S b (wkF (Mt js) b 69 [eJ b]):=by
 have b2:=J.en.mp hb;have w0:Wk js xs S [eJ b]:=⟨by simp,(fun j hj=>by cases hj),by simp,fun p hp=>by rw[Wb.mp hp];exact b2.1,fun p hp=>by rw[Wb.mp hp];exact hs⟩
 have nx:∀ps,Wk js xs S ps->∃d,cI kvs (kE (riE (ps.getLastD z0)))=some d/\(([riE (ps.getLastD z0)]∈js/\d=.non)∨∃f,Mt js (riE (ps.getLastD z0)) f/\d=eD f):=fun ps W=>by
  rcases Sd.two J T (J.en.mpr ⟨W.xs _ (Wa (fU W.ne)),EU _⟩) with⟨h1,h2⟩|⟨g,h1,h2⟩
  ·exact⟨_,h2,.inl ⟨h1,rfl⟩⟩
  ·exact⟨_,h2,.inr ⟨g,h1,rfl⟩⟩
 obtain⟨d0,g0,h0⟩:=nx _ w0;have g0:cI kvs (kE (riE (eJ b)))=some d0:=g0
 let I:Nat->En->Prop:=fun m st=>∃ps d,st=(wS b kvs ps d)/\Wk js xs S ps/\leE (ps.headD z0)=b/\(([riE (ps.getLastD z0)]∈js/\d=.non)∨∃f,Mt js (riE (ps.getLastD z0)) f/\d=eD f)/\wkF (Mt js) b m ps=wkF (Mt js) b 69 [eJ b]/\m=70-ps.length
 obtain⟨sf,ew,ps,d,rfl,fd,fe⟩:=nM (f:=eY (aH (fOp (mB true) (ai 3) (fC .non))) (aH (fOp jz (ai 3) (ai 0)))) (B:=iQ) I
  (fun st=>∃ps d,st=(wS b kvs ps d)/\Fd js xs S b ps/\ps=wkF (Mt js) b 69 [eJ b]) (by
   rintro m st ⟨ps,d,rfl,W,hd,h,hw,rfl⟩;have wl:=W.len;have e70:70-ps.length=(69-ps.length)+1:=by lia
   rw[e70,wkF]at hw;rcases h with⟨h,rfl⟩|⟨f,m,rfl⟩
   ·rw[dif_neg fun z=>(Exists.choose_spec z).1.sym.free J h]at hw;exact .inl ⟨_,lX (aN (aC rfl rfl rfl rfl rfl) rfl),ps,.non,rfl,⟨W,hd,.inl h⟩,hw⟩
   ·have t1:aH (fOp (mB true) (ai 3) (fC .non)) (wS b kvs ps (eD f))=some (true,(wS b kvs ps (eD f))):=aN (aC rfl rfl rfl rfl rfl) rfl;have t2:aH (fOp jz (ai 3) (ai 0)) (wS b kvs ps (eD f))=some (!decide (f=b),(wS b kvs ps (eD f))):=aN (aC rfl rfl rfl rfl neE) rfl;by_cases q:f=b
    ·rw[dif_neg fun z=>(Exists.choose_spec z).2 ((Mt.uni J (Exists.choose_spec z).1 m).trans q)]at hw;exact .inl ⟨_,gz t1 (eX t2 (by rw[decide_eq_true q];rfl)),ps,eD f,rfl,⟨W,hd,.inr (q ▸ m)⟩,hw⟩
    ·right;have hz:∃g,Mt js (riE (ps.getLastD z0)) g/\g≠b:=⟨f,m,q⟩;rw[dif_pos hz,Mt.uni J hz.choose_spec.1 m]at hw;obtain⟨W2,le⟩:=W.step J cl (e:=f) m (by rw[hd];exact q)
     have l2:=W2.len;rw[Xa,Qg]at l2;have np:Nm (eJ f).2:=nm _ (W2.xs _ (by simp))
     have be:=wd np;have ac:=qb (eJ f);rw[le]at be ac;have la:(ps++[eJ f]).getLastD z0=eJ f:=iY ps _ z0;obtain⟨d,h1,h2⟩:=nx _ W2;have h1:cI kvs (kE (riE (eJ f)))=some d:=by rw[← h1,la]
     refine⟨_,(wS b kvs (ps++[eJ f]) d),69-ps.length,gz t1 (eX t2 (by rw[decide_eq_false q];rfl)),?_,by lia,ps++[eJ f],d,rfl,W2,by rw[At W.ne];exact hd,h2,hw,by rw[Xa,Qg];lia⟩
     refine az (s:=(wS b kvs (ps++[eJ f]) (eD f))) (dX (mE rfl rfl rfl (ay (bq rfl rfl be) rfl) rfl rfl rfl (gi (by rw[Ya];lia)) (by unfold wS;rw[Vc];rfl))) ?_
     exact dW (aC rfl (bq rfl rfl ac) rfl rfl (rj h1)) rfl)
  100 69 (wS b kvs [eJ b] d0) (by lia) ⟨[eJ b],d0,rfl,w0,rd b2.2,h0,rfl,rfl⟩
 rw[← fe];refine⟨?_,fd⟩;have be:=wd (p:=eJ b) (nm _ b2.1);have ac:=qb (eJ b);rw[rd b2.2]at be ac;refine bi (o:=.rt (.d (.tup (ps.map bdD))) (wS b kvs ps d)) rfl ?_ rfl;refine az (s:=[.v (eD b),.v (.dt kvs),.o (.lst [bdD (eJ b)]),.e]) (gy (kr (ay (bq rfl rfl be) rfl) rfl (by simp)) rfl) ?_
 refine az (s:=(wS b kvs [eJ b] d0)) (dW (aC rfl (bq rfl rfl ac) rfl rfl (rj g0)) rfl) ?_;exact az ew (aZ (bH rfl rfl rfl))
end
end K08
namespace K08
open PySem L2 VF VL VF22
section
variable {js:List Jnt}{xs:List Str}{kvs:List (List Key×D)}
theorem xu(T:Sd js kvs):jW [.dt kvs]=some (.lst ((bR js.flatten).map eD),true):=by
 have ek:(kvs.map fun kv=>D.tup (kv.1.map f8))=js.flatten.map eD:=by
  have:(kvs.map fun kv=>D.tup (kv.1.map f8))=(kvs.map (·.1)).map fun k=>D.tup (k.map f8):=by rw[Xg];rfl
  rw[this,T.ks,Xg];rfl
 have:=gC (d:=.lst (js.flatten.map eD)) js.flatten rfl;unfold cx at this;unfold jW;dsimp only[qL];rw[ek];exact this
noncomputable def isF(js:List Jnt)(e:End):Bool:=decide ([e]∈js)
noncomputable def fr(js:List Jnt):List End:=(bR js.flatten).filter (isF js)
theorem fr_mem{f:End}:f∈fr js↔[f]∈js:=by
 unfold fr;rw[List.mem_filter,(bJ js.flatten).2.mem_iff];exact⟨fun h=>of_decide_eq_true h.2,fun h=>⟨Zj.mpr ⟨[f],h,by simp⟩,decide_eq_true h⟩⟩
theorem we(J:Js js xs)(T:Sd js kvs){e:End}(h:e∈js.flatten){i:Nat}{f:FE}{st:En}{r:Rs}(h1:ai i st=some (r,st))(h2:cont st r=some (.dt kvs))(h3:f st=some (.d (eD e),st)):aH (fOp (mB false) (fOp kO (ai i) f) (fC .non)) st=some (isF js e,st):=by
 rcases Sd.two J T h with⟨h4,h5⟩|⟨g,h4,h5⟩
 ·rw[show isF js e=true from decide_eq_true h4];exact aN (aC (aC h1 h3 h2 rfl (rj h5)) rfl rfl rfl rfl) rfl
 ·rw[show isF js e=false from decide_eq_false fun z=>h4.sym.free J z];exact aN (aC (aC h1 h3 h2 rfl (rj h5)) rfl rfl rfl rfl) rfl
theorem xw(J:Js js xs)(T:Sd js kvs):db (gN 0) jX jY 1 ((bR js.flatten).map eD) [.e,.o (.dt kvs)]=some ((fr js).map eD,[.e,.o (.dt kvs)]) :=
 jS (fg:=gN 0) (fc:=jX) (fe:=jY) (k:=1) eD eD (isF js) [.e,.o (.dt kvs)] (bR js.flatten) fun e he=>⟨[.v (eD e),.o (.dt kvs)],[.v (eD e),.o (.dt kvs)],rfl,we J T ((bJ js.flatten).2.mem_iff.mp he) rfl rfl rfl,fun _=>rfl,fun _=>⟨.d (eD e),[.v (eD e),.o (.dt kvs)],[.v (eD e),.o (.dt kvs)],rfl,rfl,rfl⟩⟩
structure So(js:List Jnt)(xs:List Str)(ss:List aL):Prop where
 ne:∀s∈ss,s.2≠[]
 sub:∀j∈ss.flatMap sj,j∈js
 nd:(nmz ss).Nodup
 xs:∀n∈nmz ss,n∈xs
theorem lg(ss:List aL)(s:aL):nmz (ss++[s])=nmz ss++s.2.map (·.2):=by
 unfold nmz;rw[Vh,List.flatMap_singleton,Vc]
theorem So.step{ss:List aL}(J:Js js xs)(o:So js xs ss){e:End}{ps:List Bd}(fd:Fd js xs (·∈nmz ss) e ps)(he:[e]∈js∨∀f,[f]∈js->f.1∈nmz ss):So js xs (ss++[(!isF js e,ps)]):=by
 have lm:ps.getLastD z0∈ps:=Wa (fU fd.wk.ne);refine⟨fun t ht=>?_,fun j hj=>?_,?_,fun n hn=>?_⟩
 ·rcases Xc.mp ht with z|z
  ·exact o.ne t z
  ·rw[Wb.mp z];exact fd.wk.ne
 ·rw[Vh,List.flatMap_singleton]at hj;rcases Xc.mp hj with z|z
  ·exact o.sub j z
  ·rcases Xc.mp z with z|z
   ·exact fd.wk.ij j z
   ·by_cases c:[e]∈js
    ·rw[show isF js e=true from decide_eq_true c]at z;have:j=[leE (ps.headD z0)]∨j=[riE (ps.getLastD z0)]:=by
      rcases Ze.mp z with z|z
      ·exact .inl z
      ·exact .inr (Wb.mp z)
     rcases this with rfl|rfl
     ·rw[fd.hd];exact c
     ·exact fd.la.elim id fun m=>(m.free J c).elim
    ·rw[show isF js e=false from decide_eq_false c]at z;have:j=bR [leE (ps.headD z0),riE (ps.getLastD z0)]:=Wb.mp z;rw[this,fd.hd];refine fd.la.elim (fun l=>?_) fun m=>m.sym;exact absurd ((he.resolve_left c) _ l) (fd.wk.ns _ lm)
 ·rw[lg,Qh]
  exact⟨o.nd,fd.wk.nd,fun a ha b hb z=>by
   obtain⟨p,hp,rfl⟩:=Qc.mp hb
   exact fd.wk.ns p hp (z ▸ ha)⟩
 ·rw[lg]at hn;rcases Xc.mp hn with z|z
  ·exact o.xs n z
  ·obtain⟨p,hp,rfl⟩:=Qc.mp z;exact fd.wk.xs p hp
theorem Au{α:Type}:∀{a b g r:List α}{e:α},a++b=g++e::r->e∈a∨∀x∈a,x∈g
 | [],_,_,_,_,_=>.inr fun x hx=>by cases hx
 | x::a,b,[],r,e,h=>by
  injection h with h1 _
  exact .inl (by rw[h1];exact Zc)
 | x::a,b,y::g,r,e,h=>by
  injection h with h1 h2
  rcases Au h2 with z|z
  ·exact .inl (Xb _ z)
  ·right;intro w hw;rcases Ze.mp hw with q|q
   ·rw[q,h1];exact Zc
   ·exact Xb _ (z w q)
structure Sn(sk:List (Key×D))(ns:List Str):Prop where
 ks:∀n:Str,(.inr n:Key)∈sk.map (·.1)↔n∈ns
 ln:sk.length<=ns.length
theorem B4{a0 a1 a2 a3 a5 a6 s7:Sl}{ps:List Bd}(hp:∀p∈ps,Nm p.2)(hl:ps.length<=100){ns:List Str}(hn:ns.length<=100){sk:List (Key×D)}(hk:Sn sk ns)(i7:s7.isIo=false) :
  ∃sk' t7,ii (gN 7) jZ (ps.map bdD) [a0,a1,a2,a3,.o (.dk sk),a5,a6,s7]=some (.nx [a0,a1,a2,a3,.o (.dk sk'),a5,a6,t7])/\Sn sk' (ns++ps.map (·.2))/\t7.isIo=false:=by
 obtain⟨sf,el,sk',t7,rfl,h1,i7'⟩:=cZ (fg:=gN 7) (B:=jZ) bdD ps (fun g st=>∃sk s7,st=[a0,a1,a2,a3,.o (.dk sk),a5,a6,s7]/\Sn sk (ns++g.map (·.2))/\s7.isIo=false)
  (by
   rintro g p r st ha ⟨sk,s7,rfl,h1,i7⟩;have np:=hp p (by rw[ha];simp)
   have gl:=congrArg List.length ha;rw[Xa,Qd]at gl;have kl:=h1.ln;rw[Xa,Ya]at kl;have st':pV (.dk sk) (.str p.2) (.bl true)=some (.dk (iw sk (.inr p.2) (.bl true))):=by
    show(if sk.length<100000 then some (D.dk (iw sk (.inr p.2) (.bl true))) else none)=_;rw[if_pos (by lia)]
   refine⟨[a0,a1,a2,a3,.o (.dk sk),a5,a6,.v (bdD p)],[a0,a1,a2,a3,.o (.dk (iw sk (.inr p.2) (.bl true))),a5,a6,.v (bdD p)],b7 (t:=s7) rfl i7,?_,iw sk (.inr p.2) (.bl true),.v (bdD p),rfl,⟨fun n=>?_,?_⟩,rfl⟩
   ·exact iW rfl rfl rfl rfl (bx rfl rfl (eI (t:=p.1) np) rfl) rfl rfl rfl st'
   ·rw[As,h1.ks n,Vc,← Vd,Xc (s:=ns++g.map (·.2))];show(Sum.inr n:Key)=.inr p.2∨_↔_∨n∈[p.2];rw[Wb];exact⟨fun h=>h.elim (fun z=>.inr (Sum.inr.inj z)) .inl,fun h=>h.elim .inr fun z=>.inl (by rw[z])⟩
   ·have:=B1 (kvs:=sk) (k:=(.inr p.2:Key)) (d:=.bl true);rw[Vc,Xa,Xa,Ya];show _<=ns.length+(g.length+1)
    lia)
  ps [] [a0,a1,a2,a3,.o (.dk sk),a5,a6,s7] rfl ⟨sk,s7,rfl,by rw[List.map_nil,Ve];exact hk,i7⟩
 exact⟨sk',t7,el,h1,i7'⟩
noncomputable def wf(M:End->End->Prop)(F:End->Bool)(ss:List aL)(e:End):List aL:=if e.1∈nmz ss then ss else ss++[(!F e,wkF M e 69 [eJ e])]
noncomputable def SS(js:List Jnt):List aL:=(fr js++bR js.flatten).foldl (wf (Mt js) (isF js)) []
theorem B5{js':List Jnt}(p:js'.Perm js):SS js'=SS js:=by
 have h1:Mt js'=Mt js:=by
  funext e f
  exact propext p.mem_iff
 have h2:isF js'=isF js:=by
  funext e
  exact decide_eq_decide.mpr p.mem_iff
 unfold SS fr;rw[h1,h2,dI p.flatten]
noncomputable abbrev oS(a0 x1 a2:Sl)(ss:List aL)(sk:List (Key×D))(x5 x6 x7:Sl):En:=[a0,x1,a2,.o (.lst (ss.map stD)),.o (.dk sk),x5,x6,x7]
inductive OI(js:List Jnt)(xs:List Str)(kvs:List (List Key×D))(a0 a2:Sl)(gone:List End)(st:En):Prop
 | mk (x1 x5 x6 x7:Sl) (ss:List aL) (sk:List (Key×D)) (e:st=oS a0 x1 a2 ss sk x5 x6 x7) (hx:x1=.o (.dt kvs)∨x1=.v (.dt kvs)) (hs:gone.foldl (wf (Mt js) (isF js)) []=ss) (o:So js xs ss) (hk:Sn sk (nmz ss)) (hg:∀e∈gone,e.1∈nmz ss) (j5:x5.isIo=false) (j6:x6.isIo=false) (j7:x7.isIo=false)
theorem tq(J:Js js xs)(nm:∀x∈xs,Nm x)(hx:xs.length<=60):gA [.tup (js.map jD)]=some (.tup ((cn (SS js)).map stD),false)/\So js xs (SS js)/\(nmz (SS js)).Perm xs:=by
 have fl:js.flatten.length<=120:=by
  have:=J.pf.length_eq;rw[Xa,Ya,Ya]at this;lia
 obtain⟨kvs,be,T⟩:=xt J.ln J.nd (by lia)
 have sok:=xu T;have frl:(fr js).length<=120:=by
  have:=List.length_filter_le (isF js) (bR js.flatten);rw[lf]at this;unfold fr;lia
 have ad:cS (.lst ((fr js).map eD)) (.lst ((bR js.flatten).map eD))=some (.lst ((fr js++bR js.flatten).map eD),true):=by
  rw[q0 (by rw[Ya,Ya,lf js.flatten];lia),Vc]
 have JS:∃z:Sl,z=.v (.tup (js.map jD)):=⟨_,rfl⟩;obtain⟨a0,ha0⟩:=JS;have FR:∃z:Sl,z=.o (.lst ((fr js).map eD)):=⟨_,rfl⟩;obtain⟨a2,ha2⟩:=FR;obtain⟨sf,el,x1,x5,x6,x7,ss,sk,rfl,hx1,hss,o,hk,hg,j5,j6,j7⟩:=cZ (fg:=gN 5) (B:=oi) eD (fr js++bR js.flatten) (OI js xs kvs a0 a2)
  (by
   rintro gone e rest st ha ⟨x1,x5,x6,x7,ss,sk,rfl,hx1,hss,o,hk,hg,j5,j6,j7⟩;have hst:(gone++[e]).foldl (wf (Mt js) (isF js)) []=wf (Mt js) (isF js) ss e:=by rw[List.foldl_append,hss];rfl
   have hne:e∈js.flatten:=by
    have:e∈fr js++bR js.flatten:=by rw[ha];simp
    rcases Xc.mp this with z|z
    ·exact Zj.mpr ⟨[e],fr_mem.mp z,by simp⟩
    ·exact(bJ js.flatten).2.mem_iff.mp z
   have ix:bIx (eD e) (.int 0)=some (.str e.1,false):=ib (i:=0) rfl;have tst:aH (fOp (Eu true) (fOp bIx (ai 5) (fC (.int 0))) (ai 4)) (oS a0 x1 a2 ss sk (.v (eD e)) x6 x7)=some (!decide (e.1∈nmz ss),(oS a0 x1 a2 ss sk (.v (eD e)) x6 x7)):=by
    refine aN (aC (aC rfl rfl rfl rfl ix) rfl rfl rfl (z:=(.bl (!decide (e.1∈nmz ss)),false)) ?_) rfl;show some (D.bl (!(cI sk (.inr e.1)).isSome),false)=_;rw[B0];congr 4;exact decide_eq_decide.mpr (hk.ks e.1)
   by_cases c:e.1∈nmz ss
   ·refine⟨_,(oS a0 x1 a2 ss sk (.v (eD e)) x6 x7),b7 (t:=x5) rfl j5,dM (eX tst (by rw[decide_eq_true c];rfl)) rfl,x1,.v (eD e),x6,x7,ss,sk,rfl,hx1,by rw[hst];exact if_pos c,o,hk,fun f hf=>?_,rfl,j6,j7⟩
    rcases Xc.mp hf with z|z
    ·exact hg f z
    ·rw[Wb.mp z];exact c
   ·obtain⟨ew,fd⟩:=B3 (S:=(·∈nmz ss)) J T (re J o.ne o.sub) nm hx hne c;have hst:=hst.trans (if_neg c);generalize wkF (Mt js) e 69 [eJ e]=ps at ew fd hst
    have o2:=o.step J fd (by
     rcases Au ha with z|z
     ·exact .inl (fr_mem.mp z)
     ·exact .inr fun f hf=>hg f (z f (fr_mem.mpr hf)))
    have nl:(nmz (ss++[(!isF js e,ps)])).length<=60:=by
     have:=kH _ xs o2.nd o2.xs;lia
    rw[lg,Xa,Ya]at nl;have sl:ss.length<=60:=by
     have:=m9 ss o.ne;have h2:(nmz ss).length=(ss.flatMap (·.2)).length:=Ya _;lia
    have pn:∀p∈ps,Nm p.2:=fun p hp=>nm _ (fd.wk.xs p hp);dsimp only at nl;obtain⟨sk',t7,e7,hk',i7⟩:=B4 (a0:=a0) (a1:=.v (.dt kvs)) (a2:=a2) (a3:=.o (.lst ((ss++[(!isF js e,ps)]).map stD))) (a5:=.v (eD e)) (a6:=.v (.tup (ps.map bdD))) (s7:=x7) pn (by lia) (ns:=nmz ss) (by lia) hk j7
    have bf:bU (bB fq (ae (ai 5) (ae (ai 1) am))) 6 (oS a0 x1 a2 ss sk (.v (eD e)) x6 x7)=some (.nx (oS a0 (.v (.dt kvs)) a2 ss sk (.v (eD e)) (.v (.tup (ps.map bdD))) x7)):=by
     rcases hx1 with rfl|rfl<;>exact dW (bq (ay rfl (ay rfl rfl)) rfl ew) (b7 (t:=x6) rfl j6)
    have kd':fIf (aH (fOp (mB false) (fOp kO (ai 1) (ai 5)) (fC .non))) (fC (.str "open")) (fC (.str "ring")) (oS a0 (.v (.dt kvs)) a2 ss sk (.v (eD e)) (.v (.tup (ps.map bdD))) x7)=some (.d (.str (kd (!isF js e))),(oS a0 (.v (.dt kvs)) a2 ss sk (.v (eD e)) (.v (.tup (ps.map bdD))) x7)):=by
     have t:=we J T hne (i:=1) (f:=ai 5) (st:=(oS a0 (.v (.dt kvs)) a2 ss sk (.v (eD e)) (.v (.tup (ps.map bdD))) x7)) rfl rfl rfl;cases q:isF js e with
     | true=>exact kN (eX t q) rfl
     | false=>exact lY (eX t q) rfl
    have ap:dR (fM isL cH 3 (ae (dC (ae (fIf (aH (fOp (mB false) (fOp kO (ai 1) (ai 5)) (fC .non))) (fC (.str "open")) (fC (.str "ring"))) (ae (ai 6) am))) am)) (oS a0 (.v (.dt kvs)) a2 ss sk (.v (eD e)) (.v (.tup (ps.map bdD))) x7)=some (.nx [a0,.v (.dt kvs),a2,.o (.lst ((ss++[(!isF js e,ps)]).map stD)),.o (.dk sk),.v (eD e),.v (.tup (ps.map bdD)),x7]) :=
     dX (mE rfl rfl rfl (ay (cj (ay kd' rfl) rfl (by simp)) rfl) rfl rfl rfl (gi (by rw[Ya];lia)) (by rw[Vc];rfl))
    refine⟨_,_,b7 (t:=x5) rfl j5,iI (eX tst (by rw[decide_eq_false c];rfl)) (az bf (az ap (f7 (iJ rfl rfl) e7))),.v (.dt kvs),.v (eD e),.v (.tup (ps.map bdD)),t7,ss++[(!isF js e,ps)],sk',rfl,.inr rfl,hst,o2,by rw[lg];exact hk',fun f hf=>?_,rfl,rfl,i7⟩
    rw[lg];rcases Xc.mp hf with z|z
    ·exact Vi _ (hg f z)
    ·refine Wd _ (Qc.mpr ⟨ps.headD z0,Wa (fT fd.wk.ne),?_⟩)
     rw[Wb.mp z,← fd.hd];rfl)
  (fr js++bR js.flatten) [] [a0,.o (.dt kvs),a2,.o (.lst []),.o (.dk []),.e,.e,.e] rfl ⟨.o (.dt kvs),.e,.e,.e,[],[],rfl,.inl rfl,rfl,⟨fun s hs=>(by cases hs),fun j hj=>(by cases hj),List.nodup_nil,fun n hn=>(by cases hn)⟩,⟨fun n=>⟨fun h=>(by cases h),fun h=>(by cases h)⟩,Va _⟩,fun f hf=>(by cases hf),rfl,rfl,rfl⟩
 have pm:(nmz ss).Perm xs:=(List.perm_ext_iff_of_nodup o.nd J.nx).mpr fun n=>⟨o.xs n,fun hn=>hg (n,0) (Wd _ ((bJ js.flatten).2.mem_iff.mpr (J.en.mpr ⟨hn,.inl rfl⟩)))⟩;rw[show SS js=ss from hss];refine⟨?_,o,pm⟩
 have ca:=Ad o.ne (fun s hs p hp=>nm _ (o.xs _ (Qc.mpr ⟨p,List.mem_flatMap.mpr ⟨s,hs,hp⟩,rfl⟩))) (by
  have h1:=pm.length_eq;have h2:(nmz ss).length=(ss.flatMap (·.2)).length:=Ya _
  lia)
 refine bi (o:=.rt (.d (.tup ((cn ss).map stD))) [a0,x1,a2,.v (.lst (ss.map stD)),.o (.dk sk),x5,x6,x7]) rfl ?_ rfl;refine az (s:=[a0,.o (.dt kvs),.e,.e,.e,.e,.e,.e]) (gy (bq rfl rfl be) (by rw[ha0];rfl)) ?_
 refine az (s:=[a0,.o (.dt kvs),a2,.e,.e,.e,.e,.e]) (gy (cY (vo (bH rfl rfl sok) rfl) (q8 (n:=120) (by rw[Ya,lf];exact fl) (by decide) rfl) (xw J T)) (by rw[ha2];rfl)) ?_
 refine az (s:=[a0,.o (.dt kvs),a2,.o (.lst []),.e,.e,.e,.e]) rfl (az (s:=[a0,.o (.dt kvs),a2,.o (.lst []),.o (.dk []),.e,.e,.e]) rfl ?_);have ev:fOp cS (ai 2) (fCB jW (ae (ai 1) am)) [a0,.o (.dt kvs),a2,.o (.lst []),.o (.dk []),.e,.e,.e]=some (.f (.lst ((fr js++bR js.flatten).map eD)),[a0,.o (.dt kvs),a2,.o (.lst []),.o (.dk []),.e,.e,.e]):=by
  subst ha2;exact aC rfl (bH rfl rfl sok) rfl rfl ad
 exact az (f7 (vo ev rfl) el) (aZ (bq rfl rfl ca))
end
end K08
namespace K08
open PySem L2 VF VL VF22
theorem Av{α:Type}{f:α->D}(l:List α)(x:α):t9 (.lst ((l++[x]).map f)) []=some (f x,.lst (l.map f)):=by
 unfold t9;dsimp only;rw[Vc,List.map_singleton,List.dropLast_concat,Xa,Qg,Nat.add_sub_cancel,Ye (Va _),Nat.sub_self];rfl
theorem GN(a:End):bR [a]=[a]:=List.Perm.eq_singleton (bJ [a]).2
theorem Aw(es:List End):bR (bR es)=bR es:=dI (bJ es).2
theorem uJ{α:Type}{f:α->D}{l:List α}{st:En}(h:st[2]?=some (.o (.lst (l.map f)))):aH (fOp bNe (ai 2) (cX am)) st=some (!l.isEmpty,st):=by
 have v:ai 2 st=some (.s 2,st):=by unfold ai;rw[h]
 refine aN (aC (r2:=.f (.lst [])) v rfl (d1:=.lst (l.map f)) (by show(st[2]?).bind Sl.get=_;rw[h];rfl) rfl (z:=(.bl (!l.isEmpty),false)) ?_) rfl
 cases l<;>rfl
section
variable {xs:List Str}
structure Pd(xs:List Str)(js:List Jnt)(ls:List End):Prop where
 ln:J12 js
 pf:(js.flatten++ls).Perm (xs.map zero++xs.map one)
 so:∀j∈js,bR j=j
theorem Pd.put{js:List Jnt}{ls ms:List End}{j:Jnt}(h:Pd xs js ls)(h1:j.length=1∨j.length=2)(h2:bR j=j)(h3:(j++ms).Perm ls):Pd xs (js++[j]) ms:=by
 refine⟨fun k hk=>?_,?_,fun k hk=>?_⟩
 ·rcases Xc.mp hk with z|z
  ·exact h.ln k z
  ·rw[Wb.mp z];exact h1
 ·refine List.Perm.trans ?_ h.pf;rw[Vm,List.flatten_singleton,Vd];exact h3.append_left _
 ·rcases Xc.mp hk with z|z
  ·exact h.so k z
  ·rw[Wb.mp z];exact h2
theorem Pd.len{js:List Jnt}{ls:List End}(h:Pd xs js ls):js.length+ls.length<=2*xs.length:=by
 have h1:=h.pf.length_eq;rw[Xa,Xa,Ya,Ya]at h1;have:∀l:List Jnt,J12 l->l.length<=l.flatten.length:=fun l=>by
  induction l with
  | nil=>intro _;simp
  | cons j r ih =>
   intro h;have h1:=ih fun x hx=>h x (Xb _ hx);have h2:=h j Zc;rw[List.flatten_cons,Xa,Qd];lia
 have:=this js h.ln;lia
noncomputable abbrev pS(φ:D)(xs:List Str)(ls:List End)(js:List Jnt)(s4:Sl):En:=[.io φ,.v (.lst (xs.map D.str)),.o (.lst (ls.map eD)),.o (.lst (js.map jD)),s4]
inductive PI(xs:List Str)(m:Nat)(st:En):Prop
 | mk (ls:List End) (js:List Jnt) (φ:D) (s4:Sl) (e:st=pS φ xs ls js s4) (f:d8 φ) (P:Pd xs js ls) (i:s4.isIo=false) (l:m=ls.length)
theorem uK{φ:D}(hφ:d8 φ)(hx:xs.length<=60):∃(js:List Jnt)(φ':D),gc φ [.lst (xs.map D.str)]=some ((.lst (js.map jD),true),φ')/\Pd xs js []/\d8 φ':=by
 have c1:∀E:FE,∀g:Str->End,(∀x,E [.v (.str x)]=some (.d (eD (g x)),[.v (.str x)]))->eN 1 [] (fIA (ai 1)) (gN 0) dB E [.io φ,.v (.lst (xs.map D.str)),.e,.e,.e]=some (.f (.lst ((xs.map g).map eD)),[.io φ,.v (.lst (xs.map D.str)),.e,.e,.e]):=fun E g h=>by
  have:=cT (fg:=gN 0) (fc:=dB) (fe:=E) (k:=1) D.str (fun x=>eD (g x)) [.e] xs fun x _=>⟨[.v (.str x)],[.v (.str x)],.d (eD (g x)),[.v (.str x)],[.v (.str x)],rfl,rfl,h x,rfl,rfl⟩;rw[Xg];exact cY (vo rfl rfl) (q8 (n:=60) (by rw[Ya];exact hx) (by decide) rfl) this
 have e1:=c1 ip zero fun x=>cj (ay rfl rfl) rfl (by simp)
 have e2:=c1 iq one fun x=>cj (ay rfl rfl) rfl (by simp)
 obtain⟨ys,φ1,es,pm,f1⟩:=vW (xs:=(xs.map zero++xs.map one).map eD) hφ (by rw[Ya,Xa,Ya,Ya];lia)
 obtain⟨ls,rfl,pl⟩:=lS pm;have ad:cS (.lst ((xs.map zero).map eD)) (.lst ((xs.map one).map eD))=some (.lst ((xs.map zero++xs.map one).map eD),true):=by
  rw[q0 (by rw[Ya,Ya,Ya,Ya];lia),Vc]
 obtain⟨sf,ew,js,φ',s4,rfl,P,hf⟩:=nM (f:=aH (fOp bNe (ai 2) (cX am))) (B:=eW)
  (PI xs)
  (fun st=>∃js φ s4,st=(pS φ xs [] js s4)/\Pd xs js []/\d8 φ)
  (by
   rintro m st ⟨ls,js,φ,s4,rfl,hf,P,i4,rfl⟩;have hl:=P.len;rcases List.eq_nil_or_concat ls with rfl|⟨l1,a,rfl⟩
   ·exact .inl ⟨_,uJ (l:=([]:List End)) (f:=eD) rfl,js,φ,s4,rfl,P,hf⟩
   right;rw[List.concat_eq_append]at *;rw[Xa,Qg]at hl;have t0:=uJ (l:=l1++[a]) (f:=eD) (st:=(pS φ xs (l1++[a]) js s4)) rfl;have t0:=eX t0 (c:=true) (by cases l1<;>rfl)
   have j1:bU (dC (ae (fM0 isL t9 2) am)) 4 (pS φ xs (l1++[a]) js s4)=some (.nx (pS φ xs l1 js (.v (jD [a])))) :=
    dW (cj (ay (CG rfl rfl rfl (Av l1 a)) rfl) rfl (by simp)) (b7 (t:=s4) rfl i4)
   have t1:=uJ (l:=l1) (f:=eD) (st:=(pS φ xs l1 js (.v (jD [a])))) rfl;have fin:∀(φ2:D)(l2:List End)(j:Jnt),d8 φ2->j.length=1∨j.length=2->bR j=j->(j++l2).Perm (l1++[a])->l2.length<(l1++[a]).length ->
     sIf (eY (aH (fOp bNe (ai 2) (cX am))) (aH (fOp bNe (fIO bo 0 (ae (fC (.int 4)) am)) (fC (.int 0))))) (bU (fCB b8 (ae (fCB cx (ae (cX (ae (fOp bIx (ai 4) (fC (.int 0))) (ae (fM0 isL t9 2) am))) am)) am)) 4) cw (pS φ xs l1 js (.v (jD [a])))=some (.nx (pS φ2 xs l2 js (.v (jD j)))) ->
     ∃s1 s2 m',aH (fOp bNe (ai 2) (cX am)) (pS φ xs (l1++[a]) js s4)=some (true,s1)/\eW s1=some (.nx s2)/\m'<(l1++[a]).length/\PI xs m' s2:=fun φ2 l2 j hf2 h1 h2 h3 h4 e =>
    ⟨_,(pS φ2 xs l2 (js++[j]) (.v (jD j))),l2.length,t0,az j1 (az e (dX (mE rfl rfl rfl rfl rfl rfl rfl (gi (by rw[Ya];lia)) (by unfold pS;rw[Vc];rfl)))),h4,l2,js++[j],φ2,.v (jD j),rfl,hf2,P.put h1 h2 h3,rfl,rfl⟩
   rcases List.eq_nil_or_concat l1 with rfl|⟨l2,b,rfl⟩
   ·exact fin φ [] [a] hf (.inl rfl) (GN a) (List.Perm.refl _) (by simp) (dM (lX t1) rfl)
   ·rw[List.concat_eq_append]at *;have t1:=eX t1 (c:=true) (by cases l2<;>rfl)
    obtain⟨d,φ2,e,d0,d1,f2⟩:=dw (n:=4) hf (by lia) (by lia)
    have t2:aH (fOp bNe (fIO bo 0 (ae (fC (.int 4)) am)) (fC (.int 0))) (pS φ xs (l2++[b]) js (.v (jD [a])))=some (!decide (V.int d=V.int 0),(pS φ2 xs (l2++[b]) js (.v (jD [a])))):=aN (aC (cR rfl rfl rfl rfl rfl rfl e) rfl rfl rfl rfl) rfl;by_cases q:d=0
    ·refine fin φ2 (l2++[b]) [a] f2 (.inl rfl) (GN a) List.perm_append_comm (by simp) (dM (gz t1 (eX t2 ?_)) rfl)
     rw[q];rfl
    ·refine fin φ2 l2 (bR [a,b]) f2 (.inr (Gx a b)) (Aw _) ?_ (by simp) (iI (gz t1 (eX t2 ?_)) ?_)
     ·refine((bJ [a,b]).2.append_right l2).trans ?_;rw[Vd];refine List.perm_append_comm.trans ?_;exact List.Perm.append_left l2 (List.Perm.swap b a [])
     ·rw[decide_eq_false fun z=>q (V.int.inj z)];rfl
     ·exact dW (bH (ay (bH (ay (kr (ay (aC rfl rfl rfl rfl (BX a [])) (ay (CG rfl rfl rfl (Av l2 b)) rfl)) rfl (by simp)) rfl) rfl (gC [a,b] rfl)) rfl) rfl rfl) rfl)
  300 ls.length (pS φ1 xs ls [] .e) (by
   have:=pl.length_eq;rw[Xa,Ya,Ya]at this
   lia) ⟨ls,[],φ1,.e,rfl,f1,⟨fun j hj=>(by cases hj),pl,fun j hj=>(by cases hj)⟩,rfl,rfl⟩
 refine⟨js,φ',?_,P,hf⟩;refine cN (o:=.rt (.s 3) [.io φ',.v (.lst (xs.map D.str)),.o (.lst []),.o (.lst (js.map jD)),s4]) rfl ?_ rfl;refine az (s:=[.io φ1,.v (.lst (xs.map D.str)),.o (.lst (ls.map eD)),.e,.e]) (gy (cR rfl rfl (ay (aC e1 e2 rfl rfl ad) rfl) rfl rfl rfl es) rfl) ?_;exact az rfl (az ew rfl)
end
end K08
namespace K08
open PySem L2 VF VL VF22
theorem Js.perm{js js':List Jnt}{xs:List Str}(J:Js js xs)(p:js'.Perm js):Js js' xs :=
 ⟨fun j hj=>J.ln j (p.mem_iff.mp hj),p.flatten.trans J.pf,fun j hj=>J.so j (p.mem_iff.mp hj),J.nx⟩
theorem B6(ns:List Int):Gr [.fl (ns.map D.int)]=some (.bl true,false):=by
 have f0:d8 (Fl ns 0 0 1 0):=⟨ns,0,0,1,0,rfl,by decide,by decide,by decide,by decide⟩
 obtain⟨n,φ1,e1,n0,n1,f1⟩:=BQ f0;obtain⟨xs,φ2,e2,hxl,nm,nd,f2⟩:=zO (n:=n) f1 n0 (by lia)
 obtain⟨js,φ3,e3,P,f3⟩:=uK (xs:=xs) f2 (by lia)
 have J:Js js xs:=⟨P.ln,by have:=P.pf;rwa [Ve]at this,P.so,nd⟩
 have jl:=P.len;have any:∀js':List Jnt,js'.Perm js->gA [.tup (js'.map jD)]=some (.tup ((cn (SS js)).map stD),false):=fun js' p=>by
  rw[(tq (J.perm p) nm (by lia)).1,B5 p]
 obtain⟨_,o,pm⟩:=tq J nm (by lia)
 have hj:jo (SS js)=mI js:=ox (xp J o.ne o.sub pm);generalize SS js=ss at any o pm hj;have hne:=o.ne;have hfl:(ss.flatMap (·.2)).length=xs.length:=by have:=pm.length_eq;unfold nmz at this;rw[Ya]at this;exact this
 have nsn:∀s∈ss,∀p∈s.2,Nm p.2:=fun s hs p hp=>nm _ (o.xs _ (List.mem_map_of_mem (List.mem_flatMap.mpr ⟨s,hs,hp⟩)));have ndS:∀s∈ss,(nms s.2).Nodup:=fun s hs=>by
  have:=o.nd;obtain⟨a,b,e⟩:=List.append_of_mem hs;unfold nmz at this;rw[e,Vh,Vf,Vc,Vc]at this;exact(Qh.mp (Qh.mp this).2.1).1
 have len:∀s∈ss,s.2.length<=100:=fun s hs=>by
  obtain⟨a,b,e⟩:=List.append_of_mem hs;have:=hfl;rw[e,Vh,Vf,Xa,Xa]at this;lia
 have hsl:=m9 ss hne;obtain⟨cp,_,cpw⟩:=rb ss;have cfA:∀s∈cn ss,Cf s:=fun s hs=>by
  obtain⟨t,ht,rfl⟩:=Qc.mp (cp.mem_iff.mp hs);exact GI (hne t ht) (nsn t ht) (len t ht) (ndS t ht)
 have cnl:(cn ss).length<=100:=by rw[cp.length_eq,Ya];lia
 have cfl:((cn ss).flatMap (·.2)).length<=100:=by
  rw[(cp.flatMap_right (·.2)).length_eq,wc hne nsn];lia
 have es:=Aj (ss:=cn ss) (fun s hs=>(cfA s hs).ne) (fun s hs=>(cfA s hs).nm) (fun s hs=>(cfA s hs).ln);have ei:=uI cfA cnl cpw;have ej:=uH (ss:=cn ss) (fun s hs=>(cfA s hs).ne) (fun s hs=>(cfA s hs).nm) cfl;have ej2:=xn (ss:=cn ss) (fun s hs=>(cfA s hs).ne) (fun s hs=>(cfA s hs).nm) cfl;rw[GD hne,hj]at ej ej2;have sr:=lQ (d:=.lst (js.map jD)) js (fun j h z=>by have:=J.ln j h;rw[z]at this;simp at this) rfl
 obtain⟨ys,φ4,e4,py,f4⟩:=vW (xs:=js.map jD) f3 (by rw[Ya];lia)
 obtain⟨js',rfl,pj⟩:=lS py;have s1:=any js (List.Perm.refl _);have s2:=any js' pj;have s3:=any (mI js) (p7 js).2;have al:dU 4 [.tup ((cn ss).map stD),.tup ((cn ss).map stD)]=some (.bl true,false):=nJ (EQ (by lia) fun s hs=>by have:=(cfA s hs).ln;lia)
 have nj:=neJ (js:=mI js);generalize hS:D.fl (ns.map D.int)=S;generalize hT:D.tup ((cn ss).map stD)=T at *;generalize hN:xs.map D.str=X at *;refine bi (o:=.rt (.d (.bl true)) [.v S,.o φ4,.v (.lst X),.v (.lst (js.map jD)),.v T]) rfl ?_ rfl;refine az (s:=[.v S,.o (Fl ns 0 0 1 0),.e,.e,.e]) (gy (bq rfl rfl (hS ▸ BK ns)) rfl) ?_;refine az (s:=[.v S,.o φ2,.o (.lst X),.e,.e]) (gy (cR rfl rfl (ay (cR rfl rfl rfl rfl rfl rfl e1) rfl) rfl rfl rfl e2) rfl) ?_;refine az (s:=[.v S,.o φ3,.v (.lst X),.o (.lst (js.map jD)),.e]) (gy (cR rfl rfl rfl rfl rfl rfl e3) rfl) ?_;refine az (s:=[.v S,.o φ3,.v (.lst X),.o (.lst (js.map jD)),.v T]) (dW (bq (ay (bH rfl rfl rfl) rfl) rfl s1) rfl) ?_;refine az (s:=[.v S,.o φ3,.v (.lst X),.o (.lst (js.map jD)),.v T]) (dM (D3 (qA (aN (bx rfl rfl es rfl) rfl)) (qA (aN (bx rfl rfl ei rfl) rfl))) rfl) ?_;refine az (s:=[.v S,.o φ3,.v (.lst X),.o (.lst (js.map jD)),.v T]) (dM (aN (aC (bq rfl rfl ej) (bH (ay (bH rfl rfl sr) rfl) rfl rfl) rfl rfl nj) rfl) rfl) ?_;refine az (s:=[.v S,.o φ4,.v (.lst X),.v (.lst (js.map jD)),.v T]) (dM (qA (aN (bx (ay (bq (ay (bH (ay (cR rfl rfl rfl rfl rfl rfl e4) rfl) rfl rfl) rfl) rfl s2) rfl) rfl al rfl) rfl)) rfl) ?_;exact aZ (bx (ay (bq (ay (bq rfl rfl ej2) rfl) rfl s3) rfl) rfl al rfl)
end K08
namespace K08
open PySem L2 VF VF22
section
variable (P:Program)(w:World)(K:PySem.W.Frag)(mg:Str->Option Value)(base:Heap)
noncomputable abbrev eQ:=Cal P w K mg base "is_turned" 1 ["bead"] (spV K b9)
noncomputable abbrev eK:=Cal P w K mg base "name_of" 2 ["bead"] (spV K bV)
noncomputable abbrev ie:=Cal P w K mg base "mirrored" 3 ["bead"] (spV K dG)
noncomputable abbrev fJ:=Cal P w K mg base "turned_beads" 4 ["beads"] (spV K cV)
noncomputable abbrev lh:=Cal P w K mg base "canon_open" 5 ["beads"] (spV K gZ)
noncomputable abbrev jH:=Cal P w K mg base "first_place" 3 ["beads"] (spV K cO)
noncomputable abbrev ll:=Cal P w K mg base "canon_ring" 5 ["beads"] (spV K g6)
noncomputable abbrev i6:=Cal P w K mg base "canon_strand" 6 ["strand"] (spV K cW)
noncomputable abbrev jI:=Cal P w K mg base "strand_rank" 3 ["strand"] (spV K cP)
noncomputable abbrev wg:=Cal P w K mg base "canon" 7 ["some"] (spV K qO)
noncomputable abbrev ig:=Cal P w K mg base "left_end" 3 ["bead"] (spV K dH)
noncomputable abbrev i8:=Cal P w K mg base "right_end" 4 ["bead"] (spV K dL)
noncomputable abbrev kx:=Cal P w K mg base "joint_of" 1 ["ends"] (spV K eG)
noncomputable abbrev i9:=Cal P w K mg base "inner_joints" 5 ["beads"] (spV K d6)
noncomputable abbrev iu:=Cal P w K mg base "strand_joints" 6 ["strand"] (spV K dr)
noncomputable abbrev mq:=Cal P w K mg base "joints_of" 7 ["some"] (spV K iP)
noncomputable abbrev jJ:=Cal P w K mg base "ends_beyond" 1 ["joints"] (spV K f9)
noncomputable abbrev qc:=Cal P w K mg base "bead_at" 4 ["end"] (spV K jr)
noncomputable abbrev tu:=Cal P w K mg base "across" 1 ["end"] (spV K kU)
noncomputable abbrev lw:=Cal P w K mg base "beads_from" 5 ["begin","beyond"] (spV K fq)
noncomputable abbrev tw:=Cal P w K mg base "set_of" 8 ["joints"] (spV K gA)
noncomputable abbrev oF:=Cal P w K mg base "_law_flow" 1 ["_law_script"] (spV K j0)
noncomputable abbrev dJ:=Cal P w K mg base "_law_pick" 1 ["_law_flow_here","_law_many_here"] (mx K bo)
noncomputable abbrev gj:=Cal P w K mg base "_law_letters" 2 ["_law_flow_here","_law_many_here"] (mx K df)
noncomputable abbrev oG:=Cal P w K mg base "_law_name" 3 ["_law_flow_here","_law_stem"] (mx K j9)
noncomputable abbrev mr:=Cal P w K mg base "_law_names" 4 ["_law_flow_here","_law_many_here"] (mx K iS)
noncomputable abbrev fK:=Cal P w K mg base "_law_shuffled" 2 ["_law_flow_here","_law_things"] (mx K d7)
noncomputable abbrev mt:=Cal P w K mg base "_law_alike" 4 ["_law_found","_law_due"] (spV K (dU 4))
noncomputable abbrev oH:=Cal P w K mg base "_law_ends" 1 ["_law_bead"] (spV K fG)
noncomputable abbrev ly:=Cal P w K mg base "_law_joints" 2 ["_law_some"] (spV K hU)
noncomputable abbrev jK:=Cal P w K mg base "_law_pairing" 3 ["_law_flow_here","_law_names_here"] (mx K gc)
noncomputable abbrev ja:=Cal P w K mg base "_law_is_canon" 1 ["_law_some"] (spV K fI)
noncomputable abbrev oI:=Cal P w K mg base "_law_many" 2 ["_law_flow_here","_law_most"] (mx K kc)
noncomputable abbrev lz:=Cal P w K mg base "_law_is_set" 1 ["_law_some"] (spV K hW)
end
section
variable {P:Program}{w:World}{K:PySem.W.Frag}{mg:Str->Option Value}{base:Heap}
theorem rl(M:Md mg):Bd' P w K mg base "is_turned" lM ["bead"] 0 md:=fun hr=>⟨_,(aA (aJ (d9 PySem.F.plainAttrs_str PySem.F.slot_str_startswith PySem.F.type_str_startswith oR (pv 0) (aw bT ag)))),
  (aK (pI wO (af 0) (aa (bW _) ah)))⟩
theorem uL(M:Md mg)(c0:eQ P w K mg base):Bd' P w K mg base "name_of" qP ["bead"] 1 pZ:=fun hr=>⟨_,(aA (aJ (dN (dA (aF c0 hr rfl (aw (pv 0) ag))) (gq (nH (K:=K) rfl) (pv 0) (je aj) jd) (pv 0)))),
  (aK (kI (fB (bC (aa (af 0) ah))) (gx kM (af 0) (gw (ak _)) lH) (af 0)))⟩
theorem tz(M:Md mg)(c0:eQ P w K mg base)(c1:eK P w K mg base):Bd' P w K mg base "mirrored" lN ["bead"] 2 n9:=fun hr=>⟨_,(aA (aJ (dN (dA (aF c0 hr rfl (aw (pv 0) ag))) (aF c1 hr rfl (aw (pv 0) ag)) (bG (bQ (K:=K) rfl) bT (pv 0))))),
  (aK (kI (fB (bC (aa (af 0) ah))) (bC (aa (af 0) ah)) (ao ro_addA (bW _) (af 0))))⟩
theorem mJ(M:Md mg)(c2:ie P w K mg base):Bd' P w K mg base "turned_beads" ft ["beads"] 3 iM:=fun hr=>⟨_,(aA (aJ (bN (bF (K:=K) rfl rfl) rfl M.n_tuple aW (aw (fO (eT (osc:=(aB ft)) (ON:=["beads"]) (N:=["bead"]) (k:=1) (caps:=[]) (by decide +kernel) rfl rfl) rfl (r9 (K:=K) rfl rfl rfl M.n_reversed (pv 0)) (fun _ _ _ _=>(cQ 0 (by show(["bead"]:List Str).Nodup;decide +kernel))) (fun _ _ _ _=>dP) (fun _ _ _ _=>(aF c2 hr rfl (aw (pv 0) ag)))) ag)))),
  (aK (aV bY (aa (dj (D2 (af 0)) (bK 0) (by decide) fD (bC (aa (af 0) ah))) ah)))⟩
theorem oX(M:Md mg)(c1:eK P w K mg base)(c3:fJ P w K mg base):Bd' P w K mg base "canon_open" kf ["beads"] 4 kR:=fun hr=>⟨_,(aq (cz (aO (cK (K:=K) rfl hr.units) (aI (cb (K:=K) rfl) rfl M.n_len PySem.boot_len (aw (pv 0) ag)) aj (aU _)) (aA (aJ (ce (aw (aF c1 hr rfl (aw (aP (aD (K:=K) rfl) (pv 0) aj (fun _ _=>rfl)) ag)) ag)))) bz)
   (aq (cz (aO ua (aF c1 hr rfl (aw (aP (aD (K:=K) rfl) (pv 0) aj (fun _ _=>rfl)) ag)) (aF c1 hr rfl (aw (aP (aD (K:=K) rfl) (pv 0) (pe lC aj) (fun _ _=>rfl)) ag)) (aU _)) (aA (aJ (bN (bF (K:=K) rfl rfl) rfl M.n_tuple aW (aw (pv 0) ag)))) bz)
   (aA (aJ (aF c3 hr rfl (aw (pv 0) ag)))))),
  (aE (cA (aM (ao ro_eqA (aV et (aa (af 0) ah)) (ak _))) (aK (ci (aa (bC (aa (ao aQ (af 0) (ak _)) ah)) ah))) bA)
   (aE (cA (aM (ao ub (bC (aa (ao aQ (af 0) (ak _)) ah)) (bC (aa (ao aQ (af 0) (pE lF (ak _))) ah)))) (aK (aV bY (aa (af 0) ah))) bA)
   (aK (bp (aa (af 0) ah)))))⟩
theorem oJ(M:Md mg)(c1:eK P w K mg base):Bd' P w K mg base "first_place" fS ["beads","names"] 2 jB:=fun hr=>⟨_,(aq (qp 1 (eT (osc:=(aB fS)) (ON:=["beads","names"]) (N:=["bead"]) (k:=1) (caps:=[]) (by decide +kernel) rfl rfl) rfl sc_sfirstplace.nd (dE (K:=K) rfl (pv 0)) (fun _ _ _ _=>(cQ 0 (by show(["bead"]:List Str).Nodup;decide +kernel))) (fun _ _ _ _=>dP) (fun _ _ _ _=>(aF c1 hr rfl (aw (pv 0) ag))))
   (aA (aJ (d9 PySem.F.plainAttrs_list PySem.F.slot_list_index PySem.F.type_list_index (sN (K:=K) rfl) (pv 1) (aw (aI (pW (K:=K) rfl rfl) rfl M.n_min PyProof.Rows.boot_min (aw (pv 1) ag)) ag))))),
  (aE (aX (dj (dF (af 0)) (bK 0) (by decide) fD (bC (aa (af 0) ah))))
   (aK (pI sO (af 1) (aa (aV vS (aa (af 1) ah)) ah))))⟩
theorem oY(M:Md mg)(c0:eQ P w K mg base)(c3:fJ P w K mg base)(c5:jH P w K mg base):Bd' P w K mg base "canon_ring" ki ["beads","side","begin"] 4 kT:=fun hr=>⟨_,(aq (bP 1 sc_scanonring.nd (dN (dA (aF c0 hr rfl (aw (aP (aD (K:=K) rfl) (pv 0) (aF c5 hr rfl (aw (pv 0) ag)) (fun _ _=>rfl)) ag))) (aF c3 hr rfl (aw (pv 0) ag)) (bN (bF (K:=K) rfl rfl) rfl M.n_tuple aW (aw (pv 0) ag))))
   (aq (bP 2 sc_scanonring.nd (aF c5 hr rfl (aw (pv 1) ag)))
   (aA (aJ (bG (Bp (K:=K) rfl) (gq (vp (K:=K) rfl) (pv 1) (je (pv 2)) jd) (gq (vp (K:=K) rfl) (pv 1) jd (je (pv 2)))))))),
  (aE (aX (kI (fB (bC (aa (ao aQ (af 0) (bC (aa (af 0) ah))) ah))) (bp (aa (af 0) ah)) (aV bY (aa (af 0) ah))))
   (aE (aX (bC (aa (af 1) ah)))
   (aK (ao Bq (gx su (af 1) (gw (af 2)) lH) (gx su (af 1) lH (gw (af 2)))))))⟩
theorem mK(M:Md mg)(c4:lh P w K mg base)(c6:ll P w K mg base):Bd' P w K mg base "canon_strand" hZ ["strand"] 5 iN:=fun hr=>⟨_,(aq (cz (aO (cK (K:=K) rfl hr.units) (aP (aD (K:=K) rfl) (pv 0) aj (fun _ _=>rfl)) bT (aU _)) (aA (aJ (ce (aw bT (aw (aF c4 hr rfl (aw (aP (aD (K:=K) rfl) (pv 0) aj (fun _ _=>rfl)) ag)) ag))))) bz)
   (aA (aJ (ce (aw bT (aw (aF c6 hr rfl (aw (aP (aD (K:=K) rfl) (pv 0) aj (fun _ _=>rfl)) ag)) ag)))))),
  (aE (cA (aM (ao ro_eqA (ao aQ (af 0) (ak _)) (bW _))) (aK (ci (aa (bW _) (aa (bp (aa (ao aQ (af 0) (ak _)) ah)) ah)))) bA)
   (aK (ci (aa (bW _) (aa (bp (aa (ao aQ (af 0) (ak _)) ah)) ah)))))⟩
theorem oK(M:Md mg)(c1:eK P w K mg base):Bd' P w K mg base "strand_rank" iU ["strand"] 2 jC:=fun hr=>⟨_,(aA (aJ (ce (aw (fL (cK (K:=K) rfl hr.units) (aP (aD (K:=K) rfl) (pv 0) aj (fun _ _=>rfl)) bT (aU _)) (aw (aF c1 hr rfl (aw (aP (aD (K:=K) rfl) (aP (aD (K:=K) rfl) (pv 0) aj (fun _ _=>rfl)) aj (fun _ _=>rfl)) ag)) ag))))),
  (aK (ci (aa (ao ro_eqA (ao aQ (af 0) (ak _)) (bW _)) (aa (bC (aa (ao aQ (ao aQ (af 0) (ak _)) (ak _)) ah)) ah))))⟩
theorem Ax(M:Md mg)(c7:i6 P w K mg base)(c8:jI P w K mg base):Bd' P w K mg base "canon" qQ ["some"] 6 vV:=fun hr=>⟨_,(aA (aJ (bN (bF (K:=K) rfl rfl) rfl M.n_tuple aW (aw (zy (K:=K) rfl c8 hr rfl M.n_sorted rfl (aw (fO (eT (osc:=(aB qQ)) (ON:=["some"]) (N:=["strand"]) (k:=1) (caps:=[]) (by decide +kernel) rfl rfl) rfl (dE (K:=K) rfl (pv 0)) (fun _ _ _ _=>(cQ 0 (by show(["strand"]:List Str).Nodup;decide +kernel))) (fun _ _ _ _=>dP) (fun _ _ _ _=>(aF c7 hr rfl (aw (pv 0) ag)))) ag)) ag)))),
  (aK (aV bY (aa (aV zx (aa (dj (dF (af 0)) (bK 0) (by decide) fD (bp (aa (af 0) ah))) ah)) ah)))⟩
theorem tD(M:Md mg)(c0:eQ P w K mg base)(c1:eK P w K mg base):Bd' P w K mg base "left_end" oq ["bead"] 2 og:=fun hr=>⟨_,(aA (aJ (ce (aw (aF c1 hr rfl (aw (pv 0) ag)) (aw (dN (dA (aF c0 hr rfl (aw (pv 0) ag))) aj aj) ag))))),
  (aK (ci (aa (bC (aa (af 0) ah)) (aa (kI (fB (bC (aa (af 0) ah))) (ak _) (ak _)) ah))))⟩
theorem rm(M:Md mg)(c2:ie P w K mg base)(c10:ig P w K mg base):Bd' P w K mg base "right_end" lO ["bead"] 3 me:=fun hr=>⟨_,(aA (aJ (aF c10 hr rfl (aw (aF c2 hr rfl (aw (pv 0) ag)) ag)))),
  (aK (bp (aa (bC (aa (af 0) ah)) ah)))⟩
theorem tE(M:Md mg):Bd' P w K mg base "joint_of" ot ["ends"] 0 oh:=fun hr=>⟨_,(aA (aJ (bN (bF (K:=K) rfl rfl) rfl M.n_tuple aW (aw (aI (cU (K:=K) rfl hr) rfl M.n_sorted boot_sorted (aw (pv 0) ag)) ag)))),
  (aK (aV bY (aa (aV eP (aa (af 0) ah)) ah)))⟩
theorem mM(M:Md mg)(c10:ig P w K mg base)(c11:i8 P w K mg base)(c12:kx P w K mg base):Bd' P w K mg base "inner_joints" fu ["beads"] 4 iO:=fun hr=>⟨_,(aA (aJ (fO (eT (osc:=(aB fu)) (ON:=["beads"]) (N:=["one","other"]) (k:=2) (caps:=[]) (by decide +kernel) rfl rfl) rfl (Ec (K:=K) rfl rfl rfl rfl M.n_zip (pv 0) (gq (nH (K:=K) rfl) (pv 0) (je aj) jd)) (fun _ _ _ _=>(qC (K:=K) (n:=2) rfl rfl (gn (cQ 0 (by show(["one","other"]:List Str).Nodup;decide +kernel)) (gn (cQ 1 (by show(["one","other"]:List Str).Nodup;decide +kernel)) qf)))) (fun _ _ _ _=>dP) (fun _ _ _ _=>(aF c12 hr rfl (aw (ce (aw (aF c11 hr rfl (aw (pv 0) ag)) (aw (aF c10 hr rfl (aw (pv 1) ag)) ag))) ag)))))),
  (aK (dj (Eb (aa (af 0) (aa (gx kM (af 0) (gw (ak _)) lH) ah))) (tZ (gu (bK 0) (gu (bK 1) qt))) (by decide) fD (bp (aa (ci (aa (bp (aa (af 0) ah)) (aa (bp (aa (af 1) ah)) ah))) ah))))⟩
theorem lT(M:Md mg)(c10:ig P w K mg base)(c11:i8 P w K mg base)(c12:kx P w K mg base)(c13:i9 P w K mg base):Bd' P w K mg base "strand_joints" gf ["strand","beads","begin","end","outer"] 5 ik:=fun hr=>⟨_,(aq (bP 1 sc_sstrandjoints.nd (aP (aD (K:=K) rfl) (pv 0) aj (fun _ _=>rfl)))
   (aq (bP 2 sc_sstrandjoints.nd (aF c10 hr rfl (aw (aP (aD (K:=K) rfl) (pv 1) aj (fun _ _=>rfl)) ag)))
   (aq (bP 3 sc_sstrandjoints.nd (aF c11 hr rfl (aw (aP (aD (K:=K) rfl) (pv 1) (pe lC aj) (fun _ _=>rfl)) ag)))
   (aq (bP 4 sc_sstrandjoints.nd (dN (aO (cK (K:=K) rfl hr.units) (aP (aD (K:=K) rfl) (pv 0) aj (fun _ _=>rfl)) bT (aU _)) (cC (aw (ce (aw (pv 2) ag)) (aw (ce (aw (pv 3) ag)) ag))) (cC (aw (aF c12 hr rfl (aw (ce (aw (pv 2) (aw (pv 3) ag))) ag)) ag))))
   (aA (aJ (bG (bQ (K:=K) rfl) (aF c13 hr rfl (aw (pv 1) ag)) (pv 4)))))))),
  (aE (aX (ao aQ (af 0) (ak _)))
   (aE (aX (bp (aa (ao aQ (af 1) (ak _)) ah)))
   (aE (aX (bp (aa (ao aQ (af 1) (pE lF (ak _))) ah)))
   (aE (aX (kI (aM (ao ro_eqA (ao aQ (af 0) (ak _)) (bW _))) (cE (aa (ci (aa (af 2) ah)) (aa (ci (aa (af 3) ah)) ah))) (cE (aa (bp (aa (ci (aa (af 2) (aa (af 3) ah))) ah)) ah))))
   (aK (ao ro_addA (bp (aa (af 1) ah)) (af 4)))))))⟩
theorem rq(M:Md mg)(c14:iu P w K mg base):Bd' P w K mg base "joints_of" lP ["some","joints","strand"] 6 mf:=fun hr=>⟨_,(aq (bP 1 sc_sjointsof.nd (cC ag))
   (aq (gH PassesOwn.never rfl (dE (K:=K) rfl (pv 0)) (cQ 2 sc_sjointsof.nd) (aA (dO (d9 PySem.F.plainAttrs_list PySem.F.slot_list_extend PySem.F.type_list_extend (ud (K:=K) rfl rfl) (pv 1) (aw (aF c14 hr rfl (aw (pv 2) ag)) ag)))))
   (aA (aJ (bN (bF (K:=K) rfl rfl) rfl M.n_tuple aW (aw (aI (cU (K:=K) rfl hr) rfl M.n_sorted boot_sorted (aw (pv 1) ag)) ag)))))),
  (aE (aX (cE ah))
   (aE (gM (dF (af 0)) (bK 2) (dS (my wT (aa (bp (aa (af 2) ah)) ah))))
   (aK (aV bY (aa (aV eP (aa (af 1) ah)) ah)))))⟩
theorem oM(M:Md mg):Bd' P w K mg base "ends_beyond" iV ["joints","beyond","joint"] 0 jE:=fun hr=>⟨_,(aq (bP 1 sc_sendsbeyond.nd xP)
   (aq (gH PassesOwn.never rfl (dE (K:=K) rfl (pv 0)) (cQ 2 sc_sendsbeyond.nd) (aq (fV (dN (aO (cK (K:=K) rfl hr.units) (aI (cb (K:=K) rfl) rfl M.n_len PySem.boot_len (aw (pv 2) ag)) aj (aU _)) (aP (aD (K:=K) rfl) (pv 2) aj (fun _ _=>rfl)) jL) (gF (pv 1) (aP (aD (K:=K) rfl) (pv 2) aj (fun _ _=>rfl)) (lL (lW hr))))
   (aA (fV (dN (aO (cK (K:=K) rfl hr.units) (aI (cb (K:=K) rfl) rfl M.n_len PySem.boot_len (aw (pv 2) ag)) aj (aU _)) (aP (aD (K:=K) rfl) (pv 2) aj (fun _ _=>rfl)) jL) (gF (pv 1) (aP (aD (K:=K) rfl) (pv 2) (pe lC aj) (fun _ _=>rfl)) (lL (lW hr)))))))
   (aA (aJ (pv 1))))),
  (aE (aX zn)
   (aE (gM (dF (af 0)) (bK 2) (aE (gO lK (kI (aM (ao ro_eqA (aV et (aa (af 2) ah)) (ak _))) (ao aQ (af 2) (ak _)) jP) (ao aQ (af 2) (ak _)))
   (gO lK (kI (aM (ao ro_eqA (aV et (aa (af 2) ah)) (ak _))) (ao aQ (af 2) (ak _)) jP) (ao aQ (af 2) (pE lF (ak _))))))
   (aK (af 1))))⟩
theorem uM(M:Md mg)(c2:ie P w K mg base):Bd' P w K mg base "bead_at" qR ["end"] 3 p6:=fun hr=>⟨_,(aA (aJ (dN (aO (cK (K:=K) rfl hr.units) (aP (aD (K:=K) rfl) (pv 0) aj (fun _ _=>rfl)) aj (aU _)) (aP (aD (K:=K) rfl) (pv 0) aj (fun _ _=>rfl)) (aF c2 hr rfl (aw (aP (aD (K:=K) rfl) (pv 0) aj (fun _ _=>rfl)) ag))))),
  (aK (kI (aM (ao ro_eqA (ao aQ (af 0) (ak _)) (ak _))) (ao aQ (af 0) (ak _)) (bC (aa (ao aQ (af 0) (ak _)) ah))))⟩
theorem xz(M:Md mg):Bd' P w K mg base "across" qS ["end"] 0 sS:=fun hr=>⟨_,(aA (aJ (ce (aw (aP (aD (K:=K) rfl) (pv 0) aj (fun _ _=>rfl)) (aw (bG tP aj (aP (aD (K:=K) rfl) (pv 0) aj (fun _ _=>rfl))) ag))))),
  (aK (ci (aa (ao aQ (af 0) (ak _)) (aa (ao t6 (ak _) (ao aQ (af 0) (ak _))) ah))))⟩
theorem oZ(M:Md mg)(c17:qc P w K mg base)(c18:tu P w K mg base):Bd' P w K mg base "beads_from" kj ["begin","beyond","beads","here"] 4 kW:=fun hr=>⟨_,(aq (bP 2 sc_sbeadsfrom.nd (cC (aw (aF c17 hr rfl (aw (pv 0) ag)) ag)))
   (aq (bP 3 sc_sbeadsfrom.nd (kP (lW hr) (pv 1) (aF c18 hr rfl (aw (pv 0) ag)) (fun _ _=>rfl)))
   (aq (ky PassesOwn.never (PW.pt (iy (aO AB (pv 3) jL (aU _)) (jb (aO (nR (K:=K) rfl hr.units) (pv 3) (pv 0) (aU _))))) (aq (dO (d9 PySem.F.plainAttrs_list PySem.F.slot_list_append PySem.F.type_list_append cL (pv 2) (aw (aF c17 hr rfl (aw (pv 3) ag)) ag)))
   (aA (bP 3 sc_sbeadsfrom.nd (kP (lW hr) (pv 1) (aF c18 hr rfl (aw (pv 3) ag)) (fun _ _=>rfl))))))
   (aA (aJ (bN (bF (K:=K) rfl rfl) rfl M.n_tuple aW (aw (pv 2) ag))))))),
  (aE (aX (cE (aa (bp (aa (af 0) ah)) ah)))
   (aE (aX (ao mZ (af 1) (bp (aa (af 0) ah))))
   (aE (kJ 100 (fP (aM (ao AX (af 3) jP)) (aM (ao nS (af 3) (af 0)))) (aE (dS (my cM (aa (bp (aa (af 3) ah)) ah)))
   (aX (ao mZ (af 1) (bp (aa (af 3) ah))))))
   (aK (aV bY (aa (af 2) ah))))))⟩
theorem xA(M:Md mg)(c1:eK P w K mg base)(c9:wg P w K mg base)(c16:jJ P w K mg base)(c19:lw P w K mg base):Bd' P w K mg base "set_of" qT ["joints","beyond","free","strands","seen","end","beads","bead"] 7 sT:=fun hr=>⟨_,(aq (bP 1 sc_ssetof.nd (aF c16 hr rfl (aw (pv 0) ag)))
   (aq (qp 2 (eT (osc:=(aB qT)) (ON:=["joints","beyond","free","strands","seen","end","beads","bead"]) (N:=["end","beyond"]) (k:=1) (caps:=[1]) (by decide +kernel) rfl rfl) rfl sc_ssetof.nd (dE (K:=K) rfl (aI (n4 (K:=K) rfl rfl hr) rfl M.n_sorted boot_sorted (aw (pv 1) ag))) (fun _ _ _ _=>(cQ 0 (by show(["end","beyond"]:List Str).Nodup;decide +kernel))) (fun _ _ _ _=>AL (aO qg (kP (lW hr) (pv 1) (pv 0) (fun _ _=>rfl)) jL (aU _))) (fun _ _ _ _=>(pv 0)))
   (aq (bP 3 sc_ssetof.nd (cC ag))
   (aq (bP 4 sc_ssetof.nd xO)
   (aq (gH PassesOwn.never rfl (dE (K:=K) rfl (bG (bQ (K:=K) rfl) (pv 2) (aI (n4 (K:=K) rfl rfl hr) rfl M.n_sorted boot_sorted (aw (pv 1) ag)))) (cQ 5 sc_ssetof.nd) (aA (cz (aO (wZ (lW hr)) (aP (aD (K:=K) rfl) (pv 5) aj (fun _ _=>rfl)) (pv 4) (by with_unfolding_all rfl)) (aq (bP 6 sc_ssetof.nd (aF c19 hr rfl (aw (pv 5) (aw (pv 1) ag))))
   (aq (dO (d9 PySem.F.plainAttrs_list PySem.F.slot_list_append PySem.F.type_list_append cL (pv 3) (aw (ce (aw (dN (aO qg (kP (lW hr) (pv 1) (pv 5) (fun _ _=>rfl)) jL (aU _)) bT bT) (aw (pv 6) ag))) ag)))
   (aA (gH PassesOwn.never rfl (dE (K:=K) rfl (pv 6)) (cQ 7 sc_ssetof.nd) (aA (fV gm (gF (pv 4) (aF c1 hr rfl (aw (pv 7) ag)) (lL (lW hr))))))))) bz)))
   (aA (aJ (aF c9 hr rfl (aw (pv 3) ag))))))))),
  (aE (aX (bp (aa (af 0) ah)))
   (aE (aX (dj (dF (aV sJ (aa (af 1) ah))) (bK 0) (by decide) (aM (ao qx (ao mZ (af 1) (af 0)) jP)) (af 0)))
   (aE (aX (cE ah))
   (aE (aX zo)
   (aE (gM (dF (ao ro_addA (af 2) (aV sJ (aa (af 1) ah)))) (bK 5) (cA (aM (ao (Ev true) (ao aQ (af 5) (ak _)) (af 4))) (aE (aX (bp (aa (af 5) (aa (af 1) ah))))
   (aE (dS (my cM (aa (ci (aa (kI (aM (ao qx (ao mZ (af 1) (af 5)) jP)) (bW _) (bW _)) (aa (af 6) ah))) ah)))
   (gM (dF (af 6)) (bK 7) (gO lK (gt _) (bC (aa (af 7) ah)))))) bA))
   (aK (bp (aa (af 3) ah))))))))⟩
theorem tF(M:Md mg):Bd' P w K mg base "_law_flow" uu ["_law_script"] 0 oj:=fun hr=>⟨_,(aA (aJ (BE (sK (bN (nI (K:=K) rfl rfl) rfl M.n_list gJ (aw (pv 0) ag)) (sK aj (sK aj (sK aj (sK aj BD rfl) rfl) rfl) rfl) rfl)))),
  (aK (cE (aa (aV rY (aa (af 0) ah)) (aa (ak _) (aa (ak _) (aa (ak _) (aa (ak _) ah)))))))⟩
theorem tG(M:Md mg):Bd' P w K mg base "_law_pick" uv ["_law_flow_here","_law_many_here","_law_cell","_law_digit"] 0 j8:=fun hr=>⟨_,(aq (cz (PW.pt (iy (aO (cK (K:=K) rfl hr.units) (aP (aD (K:=K) rfl) (pv 0) aj (fun _ _=>rfl)) aj (aU _)) (jb (aO ua (aP (aD (K:=K) rfl) (pv 0) aj (fun _ _=>rfl)) (aI (cb (K:=K) rfl) rfl M.n_len PySem.boot_len (aw (aP (aD (K:=K) rfl) (pv 0) aj (fun _ _=>rfl)) ag)) (aU _))))) (aq (bP 2 sc_sLpick.nd (aP (aD (K:=K) rfl) (aP (aD (K:=K) rfl) (pv 0) aj (fun _ _=>rfl)) (aP (aD (K:=K) rfl) (pv 0) aj (fun _ _=>rfl)) (fun _ _=>rfl)))
   (aq (fV (bG (bQ (K:=K) rfl) (aP (aD (K:=K) rfl) (pv 0) aj (fun _ _=>rfl)) aj) (gF (pv 0) aj set_list))
   (aA (cz (aO Fh (pv 2) (bG Dd aj aj) (aU _)) (aA (fV (pv 2) (gF (pv 0) aj set_list))) (aA (fV (bG iA (bG (bQ (K:=K) rfl) (bG (bQ (K:=K) rfl) (bG mS (aP (aD (K:=K) rfl) (pv 0) aj (fun _ _=>rfl)) aj) (bG iA (pv 2) aj)) aj) aj) (gF (pv 0) aj set_list))))))) bz)
   (aq (cz (aO Cc (aP (aD (K:=K) rfl) (pv 0) aj (fun _ _=>rfl)) aj (aU _)) (aq (bP 3 sc_sLpick.nd (bG iA (aP (aD (K:=K) rfl) (pv 0) aj (fun _ _=>rfl)) (pv 1)))
   (aq (fV (bG mP (aP (aD (K:=K) rfl) (pv 0) aj (fun _ _=>rfl)) (pv 1)) (gF (pv 0) aj set_list))
   (aA (aJ (pv 3))))) bz)
   (aq (fV (bG (bQ (K:=K) rfl) (aP (aD (K:=K) rfl) (pv 0) aj (fun _ _=>rfl)) aj) (gF (pv 0) aj set_list))
   (aq (fV (bG iA (bG (bQ (K:=K) rfl) (bG (bQ (K:=K) rfl) (bG mS (aP (aD (K:=K) rfl) (pv 0) aj (fun _ _=>rfl)) aj) aj) (aP (aD (K:=K) rfl) (pv 0) aj (fun _ _=>rfl))) aj) (gF (pv 0) aj set_list))
   (aA (aJ (bG iA (bG mP (bG iA (bG mS (bG (bQ (K:=K) rfl) (bG iA (aP (aD (K:=K) rfl) (pv 0) aj (fun _ _=>rfl)) aj) aj) (bG (bQ (K:=K) rfl) (bG mP (aP (aD (K:=K) rfl) (pv 0) aj (fun _ _=>rfl)) aj) aj)) aj) aj) (pv 1)))))))),
  (aE (cA (fP (aM (ao ro_eqA (ao aQ (af 0) (ak _)) (ak _))) (aM (ao ub (ao aQ (af 0) (ak _)) (aV et (aa (ao aQ (af 0) (ak _)) ah))))) (aE (aX (ao aQ (ao aQ (af 0) (ak _)) (ao aQ (af 0) (ak _))))
   (aE (gO fw (ao ro_addA (ao aQ (af 0) (ak _)) (ak _)) (ak _))
   (cA (aM (ao FC (af 2) (ao DM (ak _) (ak _)))) (gO fw (af 2) (ak _)) (gO fw (ao iG (ao ro_addA (ao ro_addA (ao mT (ao aQ (af 0) (ak _)) (ak _)) (ao iG (af 2) (ak _))) (ak _)) (ak _)) (ak _))))) bA)
   (aE (cA (aM (ao Cr (ao aQ (af 0) (ak _)) (ak _))) (aE (aX (ao iG (ao aQ (af 0) (ak _)) (af 1)))
   (aE (gO fw (ao qw (ao aQ (af 0) (ak _)) (af 1)) (ak _))
   (aK (af 3)))) bA)
   (aE (gO fw (ao ro_addA (ao aQ (af 0) (ak _)) (ak _)) (ak _))
   (aE (gO fw (ao iG (ao ro_addA (ao ro_addA (ao mT (ao aQ (af 0) (ak _)) (ak _)) (ak _)) (ao aQ (af 0) (ak _))) (ak _)) (ak _))
   (aK (ao iG (ao qw (ao iG (ao mT (ao ro_addA (ao iG (ao aQ (af 0) (ak _)) (ak _)) (ak _)) (ao ro_addA (ao qw (ao aQ (af 0) (ak _)) (ak _)) (ak _))) (ak _)) (ak _)) (af 1)))))))⟩
theorem oN(M:Md mg)(c22:dJ P w K mg base):Bd' P w K mg base "_law_letters" jt ["_law_flow_here","_law_many_here"] 1 jF:=fun hr=>⟨_,(aA (aJ (d9 PySem.F.plainAttrs_str PySem.F.slot_str_join PySem.F.type_str_join AN bT (aw (fO (eT (osc:=(aB jt)) (ON:=["_law_flow_here","_law_many_here"]) (N:=["_law_k","_law_flow_here"]) (k:=1) (caps:=[0]) (by decide +kernel) rfl rfl) rfl (jc rfl M.n_range (aw (pv 1) ag)) (fun _ _ _ _=>(cQ 0 (by show(["_law_k","_law_flow_here"]:List Str).Nodup;decide +kernel))) (fun _ _ _ _=>dP) (fun _ _ _ _=>(aP (aD (K:=K) rfl) bT (aF c22 hr rfl (aw (pv 1) (aw aj ag))) (fun _ _=>rfl)))) ag)))),
  (aK (pI Ba (bW _) (aa (dj (mR (aa (af 1) ah)) (bK 0) (by decide) fD (ao aQ (bW _) (de (aa (ak _) ah)))) ah)))⟩
theorem tH(M:Md mg)(c22:dJ P w K mg base)(c23:gj P w K mg base):Bd' P w K mg base "_law_name" uw ["_law_flow_here","_law_stem","_law_words"] 2 ol:=fun hr=>⟨_,(aq (cz (aO (fZ (K:=K) rfl hr.units) (pv 1) bT (aU _)) (aA (aJ (bG (bQ (K:=K) rfl) (pv 1) (aF c23 hr rfl (aw (pv 0) (aw (bG (bQ (K:=K) rfl) aj (aF c22 hr rfl (aw (pv 0) (aw aj ag)))) ag)))))) bz)
   (@aq _ _ _ _ _ (cz (aO (cK (K:=K) rfl hr.units) (aF c22 hr rfl (aw (pv 0) (aw aj ag))) aj (aU _)) (@aq _ _ _ _ _ (@bP _ 2 _ _ _ _ _ sc_sLname.nd (@cC _ _ _ _ (@qo _ _ _ (by rfl))) (by rfl) (by first|exact Or.inl rfl|exact Or.inr rfl) (by first|exact .inl rfl|exact .inr rfl) (by rfl) (by rfl) (by rfl))
   (aq (bP 2 sc_sLname.nd (bG (bQ (K:=K) rfl) (pv 2) (@cC _ _ _ _ (@qo _ _ _ (by rfl)))))
   (aA (aJ (aP (aD (K:=K) rfl) (pv 2) (aF c22 hr rfl (aw (pv 0) (aw aj ag))) (fun _ _=>rfl)))))) bz)
   (aA (aJ (aF c23 hr rfl (aw (pv 0) (aw (bG (bQ (K:=K) rfl) aj (aF c22 hr rfl (aw (pv 0) (aw aj ag)))) ag))))))),
  (aE (cA (aM (ao ro_neA (af 1) (bW _))) (aK (ao ro_addA (af 1) (de (aa (ao ro_addA (ak _) (de (aa (ak _) ah))) ah)))) bA)
   (aE (cA (aM (ao ro_eqA (de (aa (ak _) ah)) (ak _))) (aE (aX (cE va))
   (aE (aX (ao ro_addA (af 2) (cE va)))
   (aK (ao aQ (af 2) (de (aa (ak _) ah)))))) bA)
   (aK (de (aa (ao ro_addA (ak _) (de (aa (ak _) ah))) ah)))))⟩
theorem rz(M:Md mg)(c22:dJ P w K mg base)(c23:gj P w K mg base)(c24:oG P w K mg base):Bd' P w K mg base "_law_names" qU ["_law_flow_here","_law_many_here","_law_stem","_law_names_here","_law_k","_law_name_here","_law_spare"] 3 iR:=fun hr=>⟨_,(aq (bP 2 sc_sLnames.nd bT)
   (aq (cz (aO (cK (K:=K) rfl hr.units) (aF c22 hr rfl (aw (pv 0) (aw aj ag))) aj (aU _)) (aA (bP 2 sc_sLnames.nd (aF c23 hr rfl (aw (pv 0) (aw (bG (bQ (K:=K) rfl) aj (aF c22 hr rfl (aw (pv 0) (aw aj ag)))) ag))))) bz)
   (aq (bP 3 sc_sLnames.nd (cC ag))
   (aq (gH PassesOwn.never rfl (jc rfl M.n_range (aw (pv 1) ag)) (cQ 4 sc_sLnames.nd) (aq (bP 5 sc_sLnames.nd (aF c24 hr rfl (aw (pv 0) (aw (pv 2) ag))))
   (aq (bP 6 sc_sLnames.nd aj)
   (aq (ky PassesOwn.never (aO (DS (K:=K) rfl) (pv 5) (pv 3) (by with_unfolding_all rfl)) (aq (bP 5 sc_sLnames.nd (bG mS (aP (aD (K:=K) rfl) bT (bG iA (pv 6) aj) (fun _ _=>rfl)) (bG (bQ (K:=K) rfl) aj (bG mP (pv 6) aj))))
   (aA (bP 6 sc_sLnames.nd (bG (bQ (K:=K) rfl) (pv 6) aj)))))
   (aA (dO (d9 PySem.F.plainAttrs_list PySem.F.slot_list_append PySem.F.type_list_append cL (pv 3) (aw (pv 5) ag))))))))
   (aA (aJ (pv 3))))))),
  (aE (aX (bW _))
   (aE (cA (aM (ao ro_eqA (de (aa (ak _) ah)) (ak _))) (aX (de (aa (ao ro_addA (ak _) (de (aa (ak _) ah))) ah))) bA)
   (aE (aX (cE ah))
   (aE (gM (mR (aa (af 1) ah)) (bK 4) (aE (aX (de (aa (af 2) ah)))
   (aE (aX (ak _))
   (aE (kJ 200 (aM (ao DT (af 5) (af 3))) (aE (aX (ao mT (ao aQ (bW _) (ao iG (af 6) (ak _))) (ao ro_addA (ak _) (ao qw (af 6) (ak _)))))
   (aX (ao ro_addA (af 6) (ak _)))))
   (dS (my cM (aa (af 5) ah)))))))
   (aK (af 3))))))⟩
theorem mN(M:Md mg)(c22:dJ P w K mg base):Bd' P w K mg base "_law_shuffled" km ["_law_flow_here","_law_things","_law_left","_law_told"] 1 iT:=fun hr=>⟨_,(aq (bP 2 sc_sLshuffled.nd (bN (nI (K:=K) rfl rfl) rfl M.n_list gJ (aw (pv 1) ag)))
   (aq (bP 3 sc_sLshuffled.nd (cC ag))
   (aq (ky PassesOwn.never (aO (fZ (K:=K) rfl hr.units) (pv 2) (cC ag) (aU _)) (aA (dO (d9 PySem.F.plainAttrs_list PySem.F.slot_list_append PySem.F.type_list_append cL (pv 3) (aw (d9 PySem.F.plainAttrs_list PySem.F.slot_list_pop PySem.F.type_list_pop xY (pv 2) (aw (aF c22 hr rfl (aw (pv 0) (aw (aI (cb (K:=K) rfl) rfl M.n_len PySem.boot_len (aw (pv 2) ag)) ag))) ag)) ag)))))
   (aA (aJ (pv 3)))))),
  (aE (aX (aV rY (aa (af 1) ah)))
   (aE (aX (cE ah))
   (aE (kJ 300 (aM (ao ro_neA (af 2) (cE ah))) (dS (my cM (aa (my yC (aa (de (aa (aV et (aa (af 2) ah)) ah)) ah)) ah))))
   (aK (af 3)))))⟩
theorem rA{n:Nat}{gs:List D->Option Rz}(M:Md mg)(c27:Cal P w K mg base "_law_alike" n ["_law_found","_law_due"] (spV K gs)):Bd' P w K mg base "_law_alike" m7 ["_law_found","_law_due"] n (mj gs):=fun hr=>⟨_,(aq (cz (aO qg (pv 1) jL (aU _)) (aA (aJ (fL qg (pv 0) jL (aU _)))) bz)
   (aq (cz (PW.pt (ni (dA (aI (aY (K:=K) rfl) rfl M.n_isinstance boot_isinstance (aw (pv 1) (aw (eZ rfl M.n_bool gK) ag)))) (lA (dA (aI (aY (K:=K) rfl) rfl M.n_isinstance boot_isinstance (aw (pv 0) (aw (eZ rfl M.n_bool gK) ag))))))) (aA (aJ (lB (aI (aY (K:=K) rfl) rfl M.n_isinstance boot_isinstance (aw (pv 1) (aw (eZ rfl M.n_bool gK) ag))) (lB (aI (aY (K:=K) rfl) rfl M.n_isinstance boot_isinstance (aw (pv 0) (aw (eZ rfl M.n_bool gK) ag))) (nq (fL (cK (K:=K) rfl hr.units) (pv 0) (pv 1) (aU _))))))) bz)
   (aq (cz (dA (aI (aY (K:=K) rfl) rfl M.n_isinstance boot_isinstance (aw (pv 1) (aw (eZ rfl M.n_int pD) ag)))) (aA (aJ (lB (aI (aY (K:=K) rfl) rfl M.n_isinstance boot_isinstance (aw (pv 0) (aw (eZ rfl M.n_int pD) ag))) (nq (fL (cK (K:=K) rfl hr.units) (pv 0) (pv 1) (aU _)))))) bz)
   (aq (cz (dA (aI (aY (K:=K) rfl) rfl M.n_isinstance boot_isinstance (aw (pv 1) (aw (eZ rfl M.n_str lE) ag)))) (aA (aJ (lB (aI (aY (K:=K) rfl) rfl M.n_isinstance boot_isinstance (aw (pv 0) (aw (eZ rfl M.n_str lE) ag))) (nq (fL (cK (K:=K) rfl hr.units) (pv 0) (pv 1) (aU _)))))) bz)
   (aq (cz (PW.pt (ni (aO (fZ (K:=K) rfl hr.units) (aI (aY (K:=K) rfl) rfl M.n_isinstance boot_isinstance (aw (pv 1) (aw (eZ rfl M.n_tuple aW) ag))) (aI (aY (K:=K) rfl) rfl M.n_isinstance boot_isinstance (aw (pv 0) (aw (eZ rfl M.n_tuple aW) ag))) (aU _)) (lA (aO (fZ (K:=K) rfl hr.units) (aI (aY (K:=K) rfl) rfl M.n_isinstance boot_isinstance (aw (pv 1) (aw (eZ rfl M.n_list gJ) ag))) (aI (aY (K:=K) rfl) rfl M.n_isinstance boot_isinstance (aw (pv 0) (aw (eZ rfl M.n_list gJ) ag))) (aU _))))) (aA (aJ gm)) bz)
   (aA (aJ (lB (fL (cK (K:=K) rfl hr.units) (aI (cb (K:=K) rfl) rfl M.n_len PySem.boot_len (aw (pv 0) ag)) (aI (cb (K:=K) rfl) rfl M.n_len PySem.boot_len (aw (pv 1) ag)) (aU _)) (nq (aI (rL rfl) rfl M.n_all boot_all (aw (fO (eT (osc:=(aB m7)) (ON:=["_law_found","_law_due"]) (N:=["_law_k","_law_found","_law_due"]) (k:=1) (caps:=[0,1]) (by decide +kernel) rfl rfl) rfl (jc rfl M.n_range (aw (aI (cb (K:=K) rfl) rfl M.n_len PySem.boot_len (aw (pv 1) ag)) ag)) (fun _ _ _ _=>(cQ 0 (by show(["_law_k","_law_found","_law_due"]:List Str).Nodup;decide +kernel))) (fun _ _ _ _=>dP) (fun _ _ _ _=>(aF c27 hr rfl (aw (aP (aD (K:=K) rfl) (pv 1) (pv 0) (fun _ _=>rfl)) (aw (aP (aD (K:=K) rfl) (pv 2) (pv 0) (fun _ _=>rfl)) ag)) (Va _)))) ag))))))))))),
  (aE (cA (aM (ao qx (af 1) jP)) (aK (ao qx (af 0) jP)) bA)
   (aE (cA (jQ (fB (aV bO (aa (af 1) (aa (gr fun _ _=>.ty _) ah)))) (fB (aV bO (aa (af 0) (aa (gr fun _ _=>.ty _) ah))))) (aK (ji (aV bO (aa (af 1) (aa (gr fun _ _=>.ty _) ah))) (ji (aV bO (aa (af 0) (aa (gr fun _ _=>.ty _) ah))) (ao ro_eqA (af 0) (af 1))))) bA)
   (aE (cA (fB (aV bO (aa (af 1) (aa (gr fun _ _=>.ty _) ah)))) (aK (ji (aV bO (aa (af 0) (aa (gr fun _ _=>.ty _) ah))) (ao ro_eqA (af 0) (af 1)))) bA)
   (aE (cA (fB (aV bO (aa (af 1) (aa (gr fun _ _=>.ty _) ah)))) (aK (ji (aV bO (aa (af 0) (aa (gr fun _ _=>.ty _) ah))) (ao ro_eqA (af 0) (af 1)))) bA)
   (aE (cA (jQ (aM (ao ro_neA (aV bO (aa (af 1) (aa (gr fun _ _=>.ty _) ah))) (aV bO (aa (af 0) (aa (gr fun _ _=>.ty _) ah))))) (aM (ao ro_neA (aV bO (aa (af 1) (aa (gr fun _ _=>.ty _) ah))) (aV bO (aa (af 0) (aa (gr fun _ _=>.ty _) ah)))))) (aK (gt _)) bA)
   (aK (ji (ao ro_eqA (aV et (aa (af 0) ah)) (aV et (aa (af 1) ah))) (aV yy (aa (dj (mR (aa (aV et (aa (af 1) ah)) ah)) (bK 0) (by decide) fD (bC (aa (ao aQ (af 1) (af 0)) (aa (ao aQ (af 2) (af 0)) ah)))) ah)))))))))⟩
theorem tI(M:Md mg):Bd' P w K mg base "_law_ends" ux ["_law_bead"] 0 om:=fun hr=>⟨_,(aq (cz (aO (cK (K:=K) rfl hr.units) (aP (aD (K:=K) rfl) (pv 0) aj (fun _ _=>rfl)) bT (aU _)) (aA (aJ (ce (aw (ce (aw (gq (nH (K:=K) rfl) (pv 0) (je aj) jd) (aw aj ag))) (aw (ce (aw (gq (nH (K:=K) rfl) (pv 0) (je aj) jd) (aw aj ag))) ag))))) bz)
   (aA (aJ (ce (aw (ce (aw (pv 0) (aw aj ag))) (aw (ce (aw (pv 0) (aw aj ag))) ag)))))),
  (aE (cA (aM (ao ro_eqA (ao aQ (af 0) (ak _)) (bW _))) (aK (ci (aa (ci (aa (gx kM (af 0) (gw (ak _)) lH) (aa (ak _) ah))) (aa (ci (aa (gx kM (af 0) (gw (ak _)) lH) (aa (ak _) ah))) ah)))) bA)
   (aK (ci (aa (ci (aa (af 0) (aa (ak _) ah))) (aa (ci (aa (af 0) (aa (ak _) ah))) ah)))))⟩
theorem o0(M:Md mg)(c28:oH P w K mg base):Bd' P w K mg base "_law_joints" kX ["_law_some","_law_joints_here","_law_kind","_law_beads","_law_ends_here","_law_k"] 1 g9:=fun hr=>⟨_,(aq (bP 1 sc_sLjoints.nd (cC ag))
   (aq (gH PassesOwn.never rfl (dE (K:=K) rfl (pv 0)) (qC (K:=K) (n:=2) rfl rfl (gn (cQ 2 sc_sLjoints.nd) (gn (cQ 3 sc_sLjoints.nd) qf))) (aq (qp 4 (eT (osc:=(aB kX)) (ON:=["_law_some","_law_joints_here","_law_kind","_law_beads","_law_ends_here","_law_k"]) (N:=["_law_bead"]) (k:=1) (caps:=[]) (by decide +kernel) rfl rfl) rfl sc_sLjoints.nd (dE (K:=K) rfl (pv 3)) (fun _ _ _ _=>(cQ 0 (by show(["_law_bead"]:List Str).Nodup;decide +kernel))) (fun _ _ _ _=>dP) (fun _ _ _ _=>(aF c28 hr rfl (aw (pv 0) ag))))
   (aq (gH PassesOwn.never rfl (jc rfl M.n_range (aw (bG tP (aI (cb (K:=K) rfl) rfl M.n_len PySem.boot_len (aw (pv 4) ag)) aj) ag)) (cQ 5 sc_sLjoints.nd) (aA (dO (d9 PySem.F.plainAttrs_list PySem.F.slot_list_append PySem.F.type_list_append cL (pv 1) (aw (bN (bF (K:=K) rfl rfl) rfl M.n_tuple aW (aw (aI (cU (K:=K) rfl hr) rfl M.n_sorted boot_sorted (aw (cC (aw (aP (aD (K:=K) rfl) (aP (aD (K:=K) rfl) (pv 4) (pv 5) (fun _ _=>rfl)) aj (fun _ _=>rfl)) (aw (aP (aD (K:=K) rfl) (aP (aD (K:=K) rfl) (pv 4) (bG (bQ (K:=K) rfl) (pv 5) aj) (fun _ _=>rfl)) aj (fun _ _=>rfl)) ag))) ag)) ag)) ag)))))
   (aA (cz (aO (cK (K:=K) rfl hr.units) (pv 2) bT (aU _)) (aA (dO (d9 PySem.F.plainAttrs_list PySem.F.slot_list_append PySem.F.type_list_append cL (pv 1) (aw (bN (bF (K:=K) rfl rfl) rfl M.n_tuple aW (aw (aI (cU (K:=K) rfl hr) rfl M.n_sorted boot_sorted (aw (cC (aw (aP (aD (K:=K) rfl) (aP (aD (K:=K) rfl) (pv 4) (pe lC aj) (fun _ _=>rfl)) aj (fun _ _=>rfl)) (aw (aP (aD (K:=K) rfl) (aP (aD (K:=K) rfl) (pv 4) aj (fun _ _=>rfl)) aj (fun _ _=>rfl)) ag))) ag)) ag)) ag)))) (aq (dO (d9 PySem.F.plainAttrs_list PySem.F.slot_list_append PySem.F.type_list_append cL (pv 1) (aw (ce (aw (aP (aD (K:=K) rfl) (aP (aD (K:=K) rfl) (pv 4) aj (fun _ _=>rfl)) aj (fun _ _=>rfl)) ag)) ag)))
   (aA (dO (d9 PySem.F.plainAttrs_list PySem.F.slot_list_append PySem.F.type_list_append cL (pv 1) (aw (ce (aw (aP (aD (K:=K) rfl) (aP (aD (K:=K) rfl) (pv 4) (pe lC aj) (fun _ _=>rfl)) aj (fun _ _=>rfl)) ag)) ag))))))))))
   (aA (aJ (bN (bF (K:=K) rfl rfl) rfl M.n_tuple aW (aw (aI (cU (K:=K) rfl hr) rfl M.n_sorted boot_sorted (aw (pv 1) ag)) ag)))))),
  (aE (aX (cE ah))
   (aE (gM (dF (af 0)) (tZ (gu (bK 2) (gu (bK 3) qt))) (aE (aX (dj (dF (af 3)) (bK 0) (by decide) fD (bp (aa (af 0) ah))))
   (aE (gM (mR (aa (ao t6 (aV et (aa (af 4) ah)) (ak _)) ah)) (bK 5) (dS (my cM (aa (aV bY (aa (aV eP (aa (cE (aa (ao aQ (ao aQ (af 4) (af 5)) (ak _)) (aa (ao aQ (ao aQ (af 4) (ao ro_addA (af 5) (ak _))) (ak _)) ah))) ah)) ah)) ah))))
   (cA (aM (ao ro_eqA (af 2) (bW _))) (dS (my cM (aa (aV bY (aa (aV eP (aa (cE (aa (ao aQ (ao aQ (af 4) (pE lF (ak _))) (ak _)) (aa (ao aQ (ao aQ (af 4) (ak _)) (ak _)) ah))) ah)) ah)) ah))) (aE (dS (my cM (aa (ci (aa (ao aQ (ao aQ (af 4) (ak _)) (ak _)) ah)) ah)))
   (dS (my cM (aa (ci (aa (ao aQ (ao aQ (af 4) (pE lF (ak _))) (ak _)) ah)) ah))))))))
   (aK (aV bY (aa (aV eP (aa (af 1) ah)) ah)))))⟩
theorem oO(M:Md mg)(c22:dJ P w K mg base)(c26:fK P w K mg base):Bd' P w K mg base "_law_pairing" gB ["_law_flow_here","_law_names_here","_law_left","_law_joints_here","_law_joint"] 2 jG:=fun hr=>⟨_,(aq (bP 2 sc_sLpairing.nd (aF c26 hr rfl (aw (pv 0) (aw (bG (bQ (K:=K) rfl) (fO (eT (osc:=(aB gB)) (ON:=["_law_flow_here","_law_names_here","_law_left","_law_joints_here","_law_joint"]) (N:=["_law_name_here"]) (k:=1) (caps:=[]) (by decide +kernel) rfl rfl) rfl (dE (K:=K) rfl (pv 1)) (fun _ _ _ _=>(cQ 0 (by show(["_law_name_here"]:List Str).Nodup;decide +kernel))) (fun _ _ _ _=>dP) (fun _ _ _ _=>(ce (aw (pv 0) (aw aj ag))))) (fO (eT (osc:=(aB gB)) (ON:=["_law_flow_here","_law_names_here","_law_left","_law_joints_here","_law_joint"]) (N:=["_law_name_here"]) (k:=1) (caps:=[]) (by decide +kernel) rfl rfl) rfl (dE (K:=K) rfl (pv 1)) (fun _ _ _ _=>(cQ 0 (by show(["_law_name_here"]:List Str).Nodup;decide +kernel))) (fun _ _ _ _=>dP) (fun _ _ _ _=>(ce (aw (pv 0) (aw aj ag)))))) ag))))
   (aq (bP 3 sc_sLpairing.nd (cC ag))
   (aq (ky PassesOwn.never (aO (fZ (K:=K) rfl hr.units) (pv 2) (cC ag) (aU _)) (aq (bP 4 sc_sLpairing.nd (ce (aw (xV PySem.F.plainAttrs_list PySem.F.slot_list_pop PySem.F.type_list_pop xW (pv 2)) ag)))
   (aq (cz (PW.pt (iy (aO (fZ (K:=K) rfl hr.units) (pv 2) (cC ag) (aU _)) (jb (aO (fZ (K:=K) rfl hr.units) (aF c22 hr rfl (aw (pv 0) (aw aj ag))) aj (aU _))))) (aA (bP 4 sc_sLpairing.nd (bN (bF (K:=K) rfl rfl) rfl M.n_tuple aW (aw (aI (cU (K:=K) rfl hr) rfl M.n_sorted boot_sorted (aw (cC (aw (aP (aD (K:=K) rfl) (pv 4) aj (fun _ _=>rfl)) (aw (xV PySem.F.plainAttrs_list PySem.F.slot_list_pop PySem.F.type_list_pop xW (pv 2)) ag))) ag)) ag)))) bz)
   (aA (dO (d9 PySem.F.plainAttrs_list PySem.F.slot_list_append PySem.F.type_list_append cL (pv 3) (aw (pv 4) ag)))))))
   (aA (aJ (pv 3)))))),
  (aE (aX (de (aa (ao ro_addA (dj (dF (af 1)) (bK 0) (by decide) fD (ci (aa (af 0) (aa (ak _) ah)))) (dj (dF (af 1)) (bK 0) (by decide) fD (ci (aa (af 0) (aa (ak _) ah))))) ah)))
   (aE (aX (cE ah))
   (aE (kJ 300 (aM (ao ro_neA (af 2) (cE ah))) (aE (aX (ci (aa (Co yB) ah)))
   (aE (cA (fP (aM (ao ro_neA (af 2) (cE ah))) (aM (ao ro_neA (de (aa (ak _) ah)) (ak _)))) (aX (aV bY (aa (aV eP (aa (cE (aa (ao aQ (af 4) (ak _)) (aa (Co yB) ah))) ah)) ah))) bA)
   (dS (my cM (aa (af 4) ah))))))
   (aK (af 3)))))⟩
theorem mO(M:Md mg):Bd' P w K mg base "_law_is_canon" ju ["_law_some","_law_begins","_law_kind","_law_beads","_law_names_here"] 0 fH:=fun hr=>⟨_,(aq (bP 1 sc_sLiscanon.nd (cC ag))
   (aq (gH PassesOwn.never rfl (dE (K:=K) rfl (pv 0)) (qC (K:=K) (n:=2) rfl rfl (gn (cQ 2 sc_sLiscanon.nd) (gn (cQ 3 sc_sLiscanon.nd) qf))) (aq (qp 4 (eT (osc:=(aB ju)) (ON:=["_law_some","_law_begins","_law_kind","_law_beads","_law_names_here"]) (N:=["_law_bead"]) (k:=1) (caps:=[]) (by decide +kernel) rfl rfl) rfl sc_sLiscanon.nd (dE (K:=K) rfl (pv 3)) (fun _ _ _ _=>(cQ 0 (by show(["_law_bead"]:List Str).Nodup;decide +kernel))) (fun _ _ _ _=>dP) (fun _ _ _ _=>(d9 PySem.F.plainAttrs_str PySem.F.slot_str_strip PySem.F.type_str_strip sL (pv 0) (aw bT ag))))
   (aq (cz (PW.pt (iy (aO (nP (K:=K) rfl hr.units) (pv 2) bT (aU _)) (jb (PW.pt (ni (aO (nR (K:=K) rfl hr.units) (aP (aD (K:=K) rfl) (pv 4) aj (fun _ _=>rfl)) (aI (pW (K:=K) rfl rfl) rfl M.n_min PyProof.Rows.boot_min (aw (pv 4) ag)) (aU _)) (lA (aO (nR (K:=K) rfl hr.units) (aP (aD (K:=K) rfl) (pv 3) aj (fun _ _=>rfl)) (aP (aD (K:=K) rfl) (pv 4) aj (fun _ _=>rfl)) (aU _)))))))) (aA (aJ gm)) bz)
   (aq (cz (PW.pt (iy (aO (nP (K:=K) rfl hr.units) (pv 2) bT (aU _)) (iy (aO (nP (K:=K) rfl hr.units) (aI (cb (K:=K) rfl) rfl M.n_len PySem.boot_len (aw (pv 3) ag)) aj (aU _)) (jb (aO (nR (K:=K) rfl hr.units) (aP (aD (K:=K) rfl) (pv 3) aj (fun _ _=>rfl)) (aP (aD (K:=K) rfl) (pv 4) aj (fun _ _=>rfl)) (aU _)))))) (aA (aJ gm)) bz)
   (aq (cz (PW.pt (iy (aO (nP (K:=K) rfl hr.units) (pv 2) bT (aU _)) (iy (aO Cc (aI (cb (K:=K) rfl) rfl M.n_len PySem.boot_len (aw (pv 3) ag)) aj (aU _)) (jb (aO ua (aP (aD (K:=K) rfl) (pv 4) (pe lC aj) (fun _ _=>rfl)) (aP (aD (K:=K) rfl) (pv 4) aj (fun _ _=>rfl)) (aU _)))))) (aA (aJ gm)) bz)
   (aA (dO (d9 PySem.F.plainAttrs_list PySem.F.slot_list_append PySem.F.type_list_append cL (pv 1) (aw (ce (aw (d9 PySem.F.plainAttrs_list PySem.F.slot_list_index PySem.F.type_list_index (sN (K:=K) rfl) (cC (aw bT (aw bT ag))) (aw (pv 2) ag)) (aw (aP (aD (K:=K) rfl) (pv 4) aj (fun _ _=>rfl)) ag))) ag)))))))))
   (aA (aJ (fL (nP (K:=K) rfl hr.units) (pv 1) (aI (cU (K:=K) rfl hr) rfl M.n_sorted boot_sorted (aw (pv 1) ag)) (aU _)))))),
  (aE (aX (cE ah))
   (aE (gM (dF (af 0)) (tZ (gu (bK 2) (gu (bK 3) qt))) (aE (aX (dj (dF (af 3)) (bK 0) (by decide) fD (pI sM (af 0) (aa (bW _) ah))))
   (aE (cA (fP (aM (ao nQ (af 2) (bW _))) (jQ (aM (ao nS (ao aQ (af 4) (ak _)) (aV vS (aa (af 4) ah)))) (aM (ao nS (ao aQ (af 3) (ak _)) (ao aQ (af 4) (ak _)))))) (aK (gt _)) bA)
   (aE (cA (fP (aM (ao nQ (af 2) (bW _))) (fP (aM (ao nQ (aV et (aa (af 3) ah)) (ak _))) (aM (ao nS (ao aQ (af 3) (ak _)) (ao aQ (af 4) (ak _)))))) (aK (gt _)) bA)
   (aE (cA (fP (aM (ao nQ (af 2) (bW _))) (fP (aM (ao Cr (aV et (aa (af 3) ah)) (ak _))) (aM (ao ub (ao aQ (af 4) (pE lF (ak _))) (ao aQ (af 4) (ak _)))))) (aK (gt _)) bA)
   (dS (my cM (aa (ci (aa (pI sO (cE (aa (bW _) (aa (bW _) ah))) (aa (af 2) ah)) (aa (ao aQ (af 4) (ak _)) ah))) ah))))))))
   (aK (ao nQ (af 1) (aV eP (aa (af 1) ah))))))⟩
theorem tJ(M:Md mg)(c22:dJ P w K mg base):Bd' P w K mg base "_law_many" uz ["_law_flow_here","_law_most"] 1 on:=fun hr=>⟨_,(aq (cz (aO (cK (K:=K) rfl hr.units) (aF c22 hr rfl (aw (pv 0) (aw aj ag))) aj (aU _)) (aA (aJ (bG tP aj (aF c22 hr rfl (aw (pv 0) (aw aj ag)))))) bz)
   (aA (aJ (aF c22 hr rfl (aw (pv 0) (aw (bG (bQ (K:=K) rfl) (pv 1) aj) ag)))))),
  (aE (cA (aM (ao ro_eqA (de (aa (ak _) ah)) (ak _))) (aK (ao t6 (ak _) (de (aa (ak _) ah)))) bA)
   (aK (de (aa (ao ro_addA (af 1) (ak _)) ah))))⟩
theorem o3(M:Md mg):Bd' P w K mg base "_law_is_set" m8 ["_law_some","_law_strand"] 0 hV:=fun hr=>⟨_,(aq (cz (jN (dA (aI (aY (K:=K) rfl) rfl M.n_isinstance boot_isinstance (aw (pv 0) (aw (eZ rfl M.n_tuple aW) ag))))) (aA (aJ gm)) bz)
   (aq (gH PassesOwn.never rfl (dE (K:=K) rfl (pv 0)) (cQ 1 sc_sLisset.nd) (aq (cz (PW.pt (ni (jN (dA (aI (aY (K:=K) rfl) rfl M.n_isinstance boot_isinstance (aw (pv 1) (aw (eZ rfl M.n_tuple aW) ag))))) (ni (aO (fZ (K:=K) rfl hr.units) (aI (cb (K:=K) rfl) rfl M.n_len PySem.boot_len (aw (pv 1) ag)) aj (aU _)) (lA (aO (wP (K:=K) rfl) (aP (aD (K:=K) rfl) (pv 1) aj (fun _ _=>rfl)) (cC (aw bT (aw bT ag))) (by with_unfolding_all rfl)))))) (aA (aJ gm)) bz)
   (aq (cz (PW.pt (ni (jN (dA (aI (aY (K:=K) rfl) rfl M.n_isinstance boot_isinstance (aw (aP (aD (K:=K) rfl) (pv 1) aj (fun _ _=>rfl)) (aw (eZ rfl M.n_tuple aW) ag))))) (lA (aO (cK (K:=K) rfl hr.units) (aI (cb (K:=K) rfl) rfl M.n_len PySem.boot_len (aw (aP (aD (K:=K) rfl) (pv 1) aj (fun _ _=>rfl)) ag)) aj (aU _))))) (aA (aJ gm)) bz)
   (aA (cz (jN (dA (aI (rL rfl) rfl M.n_all boot_all (aw (fO (eT (osc:=(aB m8)) (ON:=["_law_some","_law_strand"]) (N:=["_law_bead"]) (k:=1) (caps:=[]) (by decide +kernel) rfl rfl) rfl (dE (K:=K) rfl (aP (aD (K:=K) rfl) (pv 1) aj (fun _ _=>rfl))) (fun _ _ _ _=>(cQ 0 (by show(["_law_bead"]:List Str).Nodup;decide +kernel))) (fun _ _ _ _=>dP) (fun _ _ _ _=>(lB (aI (aY (K:=K) rfl) rfl M.n_isinstance boot_isinstance (aw (pv 0) (aw (eZ rfl M.n_str lE) ag))) (nq (fL (fZ (K:=K) rfl hr.units) (d9 PySem.F.plainAttrs_str PySem.F.slot_str_strip PySem.F.type_str_strip sL (pv 0) (aw bT ag)) bT (aU _)))))) ag)))) (aA (aJ gm)) bz)))))
   (aA (aJ gm)))),
  (aE (cA (gL (fB (aV bO (aa (af 0) (aa (gr fun _ _=>.ty _) ah))))) (aK (gt _)) bA)
   (aE (gM (dF (af 0)) (bK 1) (aE (cA (jQ (gL (fB (aV bO (aa (af 1) (aa (gr fun _ _=>.ty _) ah))))) (jQ (aM (ao ro_neA (aV et (aa (af 1) ah)) (ak _))) (aM (ao wQ (ao aQ (af 1) (ak _)) (cE (aa (bW _) (aa (bW _) ah))))))) (aK (gt _)) bA)
   (aE (cA (jQ (gL (fB (aV bO (aa (ao aQ (af 1) (ak _)) (aa (gr fun _ _=>.ty _) ah))))) (aM (ao ro_eqA (aV et (aa (ao aQ (af 1) (ak _)) ah)) (ak _)))) (aK (gt _)) bA)
   (cA (gL (fB (aV yy (aa (dj (dF (ao aQ (af 1) (ak _))) (bK 0) (by decide) fD (ji (aV bO (aa (af 0) (aa (gr fun _ _=>.ty _) ah))) (ao ro_neA (pI sM (af 0) (aa (bW _) ah)) (bW _)))) ah)))) (aK (gt _)) bA))))
   (aK (gt _))))⟩
theorem EV(M:Md mg)(c15:mq P w K mg base)(c20:tw P w K mg base)(c21:oF P w K mg base)(c25:mr P w K mg base)(c26:fK P w K mg base)(c27:mt P w K mg base)(c29:ly P w K mg base)(c30:jK P w K mg base)(c31:ja P w K mg base)(c32:oI P w K mg base)(c33:lz P w K mg base):Bd' P w K mg base "law" ED ["_law_script","_law_flow_here","_law_names_here","_law_joints_here","_law_found"] 8 CP:=fun hr=>⟨_,(aq (bP 1 sc_slaw.nd (aF c21 hr rfl (aw (pv 0) ag)))
   (aq (bP 2 sc_slaw.nd (aF c25 hr rfl (aw (pv 1) (aw (aF c32 hr rfl (aw (pv 1) (aw aj ag))) ag))))
   (aq (bP 3 sc_slaw.nd (aF c30 hr rfl (aw (pv 1) (aw (pv 2) ag))))
   (aq (bP 4 sc_slaw.nd (aF c20 hr rfl (aw (bN (bF (K:=K) rfl rfl) rfl M.n_tuple aW (aw (pv 3) ag)) ag)))
   (aq (cz (PW.pt (ni (jN (dA (aF c33 hr rfl (aw (pv 4) ag)))) (lA (jN (dA (aF c31 hr rfl (aw (pv 4) ag))))))) (aA (aJ gm)) bz)
   (aq (cz (aO (nR (K:=K) rfl hr.units) (aF c29 hr rfl (aw (pv 4) ag)) (bN (bF (K:=K) rfl rfl) rfl M.n_tuple aW (aw (aI (cU (K:=K) rfl hr) rfl M.n_sorted boot_sorted (aw (pv 3) ag)) ag)) (aU _)) (aA (aJ gm)) bz)
   (aq (cz (jN (dA (aF c27 hr rfl (aw (aF c20 hr rfl (aw (bN (bF (K:=K) rfl rfl) rfl M.n_tuple aW (aw (aF c26 hr rfl (aw (pv 1) (aw (pv 3) ag))) ag)) ag)) (aw (pv 4) ag))))) (aA (aJ gm)) bz)
   (aA (aJ (aF c27 hr rfl (aw (aF c20 hr rfl (aw (aF c15 hr rfl (aw (pv 4) ag)) ag)) (aw (pv 4) ag)))))))))))),
  (aE (aX (bp (aa (af 0) ah)))
   (aE (aX (de (aa (de (aa (ak _) ah)) ah)))
   (aE (aX (de (aa (af 2) ah)))
   (aE (aX (bp (aa (aV bY (aa (af 3) ah)) ah)))
   (aE (cA (jQ (gL (fB (bC (aa (af 4) ah)))) (gL (fB (bC (aa (af 4) ah))))) (aK (gt _)) bA)
   (aE (cA (aM (ao nS (bp (aa (af 4) ah)) (aV bY (aa (aV eP (aa (af 3) ah)) ah)))) (aK (gt _)) bA)
   (aE (cA (gL (fB (bC (aa (bp (aa (aV bY (aa (de (aa (af 3) ah)) ah)) ah)) (aa (af 4) ah))))) (aK (gt _)) bA)
   (aK (bC (aa (bp (aa (bp (aa (af 4) ah)) ah)) (aa (af 4) ah)))))))))))⟩
end
set_option maxHeartbeats 0 in
theorem all_mk{l:PySem.W.OpenLaw}{w:World}{K:PySem.W.Frag}{h:Heap}{mg:Str->Option Value}{fa:Addr}(X:K.In h)(G:h.Ns mainGlobals mg)(hfa:mg "law"=some (.ref fa))
  (h1:FH K "is_turned" lM)(h2:FH K "name_of" qP)(h3:FH K "mirrored" lN)(h4:FH K "turned_beads" ft)(h5:FH K "canon_open" kf)(h6:FH K "first_place" fS)(h7:FH K "canon_ring" ki)(h8:FH K "canon_strand" hZ)(h9:FH K "strand_rank" iU)(h10:FH K "canon" qQ)(h11:FH K "left_end" oq)(h12:FH K "right_end" lO)(h13:FH K "joint_of" ot)(h14:FH K "inner_joints" fu)(h15:FH K "strand_joints" gf)(h16:FH K "joints_of" lP)(h17:FH K "ends_beyond" iV)(h18:FH K "bead_at" qR)(h19:FH K "across" qS)(h20:FH K "beads_from" kj)(h21:FH K "set_of" qT)(h22:FH K "_law_flow" uu)(h23:FH K "_law_pick" uv)(h24:FH K "_law_letters" jt)(h25:FH K "_law_name" uw)(h26:FH K "_law_names" qU)(h27:FH K "_law_shuffled" km)(h28:FH K "_law_alike" m7)(h29:FH K "_law_ends" ux)(h30:FH K "_law_joints" kX)(h31:FH K "_law_pairing" gB)(h32:FH K "_law_is_canon" ju)(h33:FH K "_law_many" uz)(h34:FH K "_law_is_set" m8)(h35:FH K "law" ED)
  (z_all:PySem.W.nsIn K mainGlobals "all"=some none) (z_bool:PySem.W.nsIn K mainGlobals "bool"=some none) (z_int:PySem.W.nsIn K mainGlobals "int"=some none) (z_isinstance:PySem.W.nsIn K mainGlobals "isinstance"=some none) (z_len:PySem.W.nsIn K mainGlobals "len"=some none) (z_list:PySem.W.nsIn K mainGlobals "list"=some none) (z_min:PySem.W.nsIn K mainGlobals "min"=some none) (z_range:PySem.W.nsIn K mainGlobals "range"=some none) (z_reversed:PySem.W.nsIn K mainGlobals "reversed"=some none) (z_sorted:PySem.W.nsIn K mainGlobals "sorted"=some none) (z_str:PySem.W.nsIn K mainGlobals "str"=some none) (z_tuple:PySem.W.nsIn K mainGlobals "tuple"=some none) (z_zip:PySem.W.nsIn K mainGlobals "zip"=some none) :
  ∃fd:FuncData,(∀(s:Shared)(v:Value),BindsTo s fd ⟨[v],[]⟩ [("_law_script",v)])/\∀base:Heap,K.In base->base.Ns mainGlobals mg->FnOk l.prog w K mg base CX0 9 fa fd ["_law_script"] (vm K):=by
 have M:Md mg:=⟨PySem.W.mg_none_of X G z_all,PySem.W.mg_none_of X G z_bool,PySem.W.mg_none_of X G z_int,PySem.W.mg_none_of X G z_isinstance,PySem.W.mg_none_of X G z_len,PySem.W.mg_none_of X G z_list,PySem.W.mg_none_of X G z_min,PySem.W.mg_none_of X G z_range,PySem.W.mg_none_of X G z_reversed,PySem.W.mg_none_of X G z_sorted,PySem.W.mg_none_of X G z_str,PySem.W.mg_none_of X G z_tuple,PySem.W.mg_none_of X G z_zip⟩;refine h35.law X G hfa sc_slaw (fun _ _ _ _ _ _=>ar1 fun _=>rfl) B6 fun base=>?_;have c0:eQ l.prog w K mg base:=h1.cal X G qV (fun _ _ _ _ _ _=>ar1 fun _=>rfl) (rl M);have c1:eK l.prog w K mg base:=h2.cal X G uA (fun _ _ _ _ _ _=>ar1 fun _=>rfl) (uL M c0);have c2:ie l.prog w K mg base:=h3.cal X G qW (fun _ _ _ _ _ _=>ar1 fun _=>rfl) (tz M c0 c1);have c3:fJ l.prog w K mg base:=h4.cal X G mF (fun _ _ _ _ _ _=>ar1 fun _=>rfl) (mJ M c2);have c4:lh l.prog w K mg base:=h5.cal X G oW (fun _ _ _ _ _ _=>ar1 fun _=>rfl) (oX M c1 c3);have c5:jH l.prog w K mg base:=h6.cal X G sc_sfirstplace (fun _ _ _ _ _ _=>ar1 fun _=>rfl) (oJ M c1);have c6:ll l.prog w K mg base:=h7.cal X G sc_scanonring (fun _ _ _ _ _ _=>ar1 fun _=>rfl) (oY M c0 c3 c5);have c7:i6 l.prog w K mg base:=h8.cal X G mG (fun _ _ _ _ _ _=>ar1 fun _=>rfl) (mK M c4 c6);have c8:jI l.prog w K mg base:=h9.cal X G ou (fun _ _ _ _ _ _=>ar1 fun _=>rfl) (oK M c1);have c9:wg l.prog w K mg base:=h10.cal X G xf (fun _ _ _ _ _ _=>ar1 fun _=>rfl) (Ax M c7 c8);have c10:ig l.prog w K mg base:=h11.cal X G sU (fun _ _ _ _ _ _=>ar1 fun _=>rfl) (tD M c0 c1);have c11:i8 l.prog w K mg base:=h12.cal X G qX (fun _ _ _ _ _ _=>ar1 fun _=>rfl) (rm M c2 c10);have c12:kx l.prog w K mg base:=h13.cal X G sV (fun _ _ _ _ _ _=>ar1 fun _=>rfl) (tE M);have c13:i9 l.prog w K mg base:=h14.cal X G mH (fun _ _ _ _ _ _=>ar1 fun _=>rfl) (mM M c10 c11 c12);have c14:iu l.prog w K mg base:=h15.cal X G sc_sstrandjoints (fun _ _ _ _ _ _=>ar1 fun _=>rfl) (lT M c10 c11 c12 c13);have c15:mq l.prog w K mg base:=h16.cal X G sc_sjointsof (fun _ _ _ _ _ _=>ar1 fun _=>rfl) (rq M c14);have c16:jJ l.prog w K mg base:=h17.cal X G sc_sendsbeyond (fun _ _ _ _ _ _=>ar1 fun _=>rfl) (oM M);have c17:qc l.prog w K mg base:=h18.cal X G uB (fun _ _ _ _ _ _=>ar1 fun _=>rfl) (uM M c2);have c18:tu l.prog w K mg base:=h19.cal X G uC (fun _ _ _ _ _ _=>ar1 fun _=>rfl) (xz M);have c19:lw l.prog w K mg base:=h20.cal X G sc_sbeadsfrom (fun _ _ _ _ _ _=>ar2 fun _ _=>rfl) (oZ M c17 c18);have c20:tw l.prog w K mg base:=h21.cal X G sc_ssetof (fun _ _ _ _ _ _=>ar1 fun _=>rfl) (xA M c1 c9 c16 c19)
 have c21:oF l.prog w K mg base:=h22.cal X G xg (fun _ _ _ _ _ _=>ar1 fun _=>rfl) (tF M);have c22:dJ l.prog w K mg base:=h23.calI X G sc_sLpick (fun _ _ _ _ _ _=>ar2 fun _ _=>rfl) (tG M);have c23:gj l.prog w K mg base:=h24.calI X G qY (fun _ _ _ _ _ _=>ar2 fun _ _=>rfl) (oN M c22);have c24:oG l.prog w K mg base:=h25.calI X G sc_sLname (fun _ _ _ _ _ _=>ar2 fun _ _=>rfl) (tH M c22 c23);have c25:mr l.prog w K mg base:=h26.calI X G sc_sLnames (fun _ _ _ _ _ _=>ar2 fun _ _=>rfl) (rz M c22 c23 c24);have c26:fK l.prog w K mg base:=h27.calI X G sc_sLshuffled (fun _ _ _ _ _ _=>ar2 fun _ _=>rfl) (mN M c22);have c27:mt l.prog w K mg base:=h28.alike X G uD (fun _ _ _ _ _ _=>ar2 fun _ _=>rfl) 20 (fun n u h=>xj h) (fun n gs hn=>rA M) 4 (by decide)
 have c28:oH l.prog w K mg base:=h29.cal X G xh (fun _ _ _ _ _ _=>ar1 fun _=>rfl) (tI M);have c29:ly l.prog w K mg base:=h30.cal X G sc_sLjoints (fun _ _ _ _ _ _=>ar1 fun _=>rfl) (o0 M c28);have c30:jK l.prog w K mg base:=h31.calI X G sc_sLpairing (fun _ _ _ _ _ _=>ar2 fun _ _=>rfl) (oO M c22 c26);have c31:ja l.prog w K mg base:=h32.cal X G sc_sLiscanon (fun _ _ _ _ _ _=>ar1 fun _=>rfl) (mO M);have c32:oI l.prog w K mg base:=h33.calI X G xi (fun _ _ _ _ _ _=>ar2 fun _ _=>rfl) (tJ M c22);have c33:lz l.prog w K mg base:=h34.cal X G sc_sLisset (fun _ _ _ _ _ _=>ar1 fun _=>rfl) (o3 M);intro _ _ _ _ _ _ _;exact EV M c15 c20 c21 c25 c26 c27 c29 c30 c31 c32 c33
end K08
open PySem PySem.W PyProof.Rows
set_option tactic.hygienic true
set_option maxRecDepth 100000 in
set_option maxHeartbeats 0 in
theorem PySem.Challenge.cw_strandwright_k08_whole_sets_of_joints_holds : PySem.Challenge.rw_strandwright_k08_whole_sets_of_joints.Holds := by
 w_on;o_law;k_head;(case hw=>w_witness2)
 k_fill
 refine VF.walkL (l:=PySem.Challenge.rw_strandwright_k08_whole_sets_of_joints) (k:=9) rfl rfl ⟨rfl,by decide,by decide⟩ (fun w h Y=>PySem.W.kIn_of Y) ?F
 case F =>
  intro w mg fa h KX G hmg;refine' K08.all_mk KX G hmg (VF.fh ?a1 ?l1 ?c1 ?k1) (VF.fh ?a2 ?l2 ?c2 ?k2) (VF.fh ?a3 ?l3 ?c3 ?k3) (VF.fh ?a4 ?l4 ?c4 ?k4) (VF.fh ?a5 ?l5 ?c5 ?k5) (VF.fh ?a6 ?l6 ?c6 ?k6) (VF.fh ?a7 ?l7 ?c7 ?k7) (VF.fh ?a8 ?l8 ?c8 ?k8) (VF.fh ?a9 ?l9 ?c9 ?k9) (VF.fh ?a10 ?l10 ?c10 ?k10) (VF.fh ?a11 ?l11 ?c11 ?k11) (VF.fh ?a12 ?l12 ?c12 ?k12) (VF.fh ?a13 ?l13 ?c13 ?k13) (VF.fh ?a14 ?l14 ?c14 ?k14) (VF.fh ?a15 ?l15 ?c15 ?k15) (VF.fh ?a16 ?l16 ?c16 ?k16) (VF.fh ?a17 ?l17 ?c17 ?k17) (VF.fh ?a18 ?l18 ?c18 ?k18) (VF.fh ?a19 ?l19 ?c19 ?k19) (VF.fh ?a20 ?l20 ?c20 ?k20) (VF.fh ?a21 ?l21 ?c21 ?k21) (VF.fh ?a22 ?l22 ?c22 ?k22) (VF.fh ?a23 ?l23 ?c23 ?k23) (VF.fh ?a24 ?l24 ?c24 ?k24) (VF.fh ?a25 ?l25 ?c25 ?k25) (VF.fh ?a26 ?l26 ?c26 ?k26) (VF.fh ?a27 ?l27 ?c27 ?k27) (VF.fh ?a28 ?l28 ?c28 ?k28) (VF.fh ?a29 ?l29 ?c29 ?k29) (VF.fh ?a30 ?l30 ?c30 ?k30) (VF.fh ?a31 ?l31 ?c31 ?k31) (VF.fh ?a32 ?l32 ?c32 ?k32) (VF.fh ?a33 ?l33 ?c33 ?k33) (VF.fh ?a34 ?l34 ?c34 ?k34) (VF.fh ?a35 ?l35 ?c35 ?k35) ?z_all ?z_bool ?z_int ?z_isinstance ?z_len ?z_list ?z_min ?z_range ?z_reversed ?z_sorted ?z_str ?z_tuple ?z_zip
  (case a1=>k_is)
  (case l1=>k_is)
  (case c1=>k_is)
  (case k1=>k_is)
  (case a2=>k_is)
  (case l2=>k_is)
  (case c2=>k_is)
  (case k2=>k_is)
  (case a3=>k_is)
  (case l3=>k_is)
  (case c3=>k_is)
  (case k3=>k_is)
  (case a4=>k_is)
  (case l4=>k_is)
  (case c4=>k_is)
  (case k4=>k_is)
  (case a5=>k_is)
  (case l5=>k_is)
  (case c5=>k_is)
  (case k5=>k_is)
  (case a6=>k_is)
  (case l6=>k_is)
  (case c6=>k_is)
  (case k6=>k_is)
  (case a7=>k_is)
  (case l7=>k_is)
  (case c7=>k_is)
  (case k7=>k_is)
  (case a8=>k_is)
  (case l8=>k_is)
  (case c8=>k_is)
  (case k8=>k_is)
  (case a9=>k_is)
  (case l9=>k_is)
  (case c9=>k_is)
  (case k9=>k_is)
  (case a10=>k_is)
  (case l10=>k_is)
  (case c10=>k_is)
  (case k10=>k_is)
  (case a11=>k_is)
  (case l11=>k_is)
  (case c11=>k_is)
  (case k11=>k_is)
  (case a12=>k_is)
  (case l12=>k_is)
  (case c12=>k_is)
  (case k12=>k_is)
  (case a13=>k_is)
  (case l13=>k_is)
  (case c13=>k_is)
  (case k13=>k_is)
  (case a14=>k_is)
  (case l14=>k_is)
  (case c14=>k_is)
  (case k14=>k_is)
  (case a15=>k_is)
  (case l15=>k_is)
  (case c15=>k_is)
  (case k15=>k_is)
  (case a16=>k_is)
  (case l16=>k_is)
  (case c16=>k_is)
  (case k16=>k_is)
  (case a17=>k_is)
  (case l17=>k_is)
  (case c17=>k_is)
  (case k17=>k_is)
  (case a18=>k_is)
  (case l18=>k_is)
  (case c18=>k_is)
  (case k18=>k_is)
  (case a19=>k_is)
  (case l19=>k_is)
  (case c19=>k_is)
  (case k19=>k_is)
  (case a20=>k_is)
  (case l20=>k_is)
  (case c20=>k_is)
  (case k20=>k_is)
  (case a21=>k_is)
  (case l21=>k_is)
  (case c21=>k_is)
  (case k21=>k_is)
  (case a22=>k_is)
  (case l22=>k_is)
  (case c22=>k_is)
  (case k22=>k_is)
  (case a23=>k_is)
  (case l23=>k_is)
  (case c23=>k_is)
  (case k23=>k_is)
  (case a24=>k_is)
  (case l24=>k_is)
  (case c24=>k_is)
  (case k24=>k_is)
  (case a25=>k_is)
  (case l25=>k_is)
  (case c25=>k_is)
  (case k25=>k_is)
  (case a26=>k_is)
  (case l26=>k_is)
  (case c26=>k_is)
  (case k26=>k_is)
  (case a27=>k_is)
  (case l27=>k_is)
  (case c27=>k_is)
  (case k27=>k_is)
  (case a28=>k_is)
  (case l28=>k_is)
  (case c28=>k_is)
  (case k28=>k_is)
  (case a29=>k_is)
  (case l29=>k_is)
  (case c29=>k_is)
  (case k29=>k_is)
  (case a30=>k_is)
  (case l30=>k_is)
  (case c30=>k_is)
  (case k30=>k_is)
  (case a31=>k_is)
  (case l31=>k_is)
  (case c31=>k_is)
  (case k31=>k_is)
  (case a32=>k_is)
  (case l32=>k_is)
  (case c32=>k_is)
  (case k32=>k_is)
  (case a33=>k_is)
  (case l33=>k_is)
  (case c33=>k_is)
  (case k33=>k_is)
  (case a34=>k_is)
  (case l34=>k_is)
  (case c34=>k_is)
  (case k34=>k_is)
  (case a35=>k_is)
  (case l35=>k_is)
  (case c35=>k_is)
  (case k35=>k_is)
  (case z_all=>k_is)
  (case z_bool=>k_is)
  (case z_int=>k_is)
  (case z_isinstance=>k_is)
  (case z_len=>k_is)
  (case z_list=>k_is)
  (case z_min=>k_is)
  (case z_range=>k_is)
  (case z_reversed=>k_is)
  (case z_sorted=>k_is)
  (case z_str=>k_is)
  (case z_tuple=>k_is)
  (case z_zip=>k_is)

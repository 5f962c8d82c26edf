import PyProof.Rows.All
import Wide.All
import OpenK.AllK
import Wide.FinOn
import Lean
import PyProof.EqAt
import PyProof.EqKinds
import PyProof.TupleCall
import KE.KRevIter
import PyProof.ExcInit
import PyProof.ExcClass2
import PyProof.ExcBaseAll.ValueError
import PyProof.InstStore
import PyProof.NsDelKeeps
import PyProof.ExcAttrAll.ValueError
import PyProof.InstStoreFacts
import KE.RegKIsAll
import PySem.Challenge.RW_strandwright_k47_stretches_turned_and_ch
set_option maxHeartbeats 2000000
set_option Elab.async false
set_option linter.all false
set_option maxRecDepth 100000
set_option genSizeOfSpec false
set_option tactic.hygienic false
noncomputable abbrev Za:=@Option.bind_some
noncomputable abbrev Ya:=@List.size_toArray
noncomputable abbrev Xa:=@Nat.le_refl
noncomputable abbrev Wa:=@List.getElem?_eq_some_iff
noncomputable abbrev Va:=@List.getElem?_eq_getElem
noncomputable abbrev Qa:=@Bool.false_ne_true
noncomputable abbrev Yb:=@Nat.lt_of_lt_of_le
noncomputable abbrev Xb:=@List.length_map
noncomputable abbrev Wb:=@List.length_append
noncomputable abbrev Vb:=@Nat.le_trans
noncomputable abbrev Qb:=@List.getElem?_append_right
noncomputable abbrev Zc:=@List.length_take
noncomputable abbrev Yc:=@List.mem_append_right
noncomputable abbrev Xc:=@List.mem_cons_of_mem
noncomputable abbrev Wc:=@List.length_drop
noncomputable abbrev Vc:=@Bool.and_eq_true
noncomputable abbrev Qc:=@List.getElem?_map
noncomputable abbrev Zd:=@Bool.false_eq_true
noncomputable abbrev Yd:=@Int.eq_ofNat_of_zero_le
noncomputable abbrev Xd:=@List.getElem?_append_left
noncomputable abbrev Wd:=@List.mem_cons_self
noncomputable abbrev Vd:=@List.length_replicate
noncomputable abbrev Qd:=@List.contains_cons
noncomputable abbrev Ze:=@List.mem_singleton
noncomputable abbrev Ye:=@Array.getElem?_eq_some_iff
noncomputable abbrev Xe:=@List.append_nil
noncomputable abbrev We:=@Option.map_eq_some_iff
noncomputable abbrev Ve:=@List.length_reverse
noncomputable abbrev Qe:=@Nat.lt_irrefl
noncomputable abbrev Zf:=@List.getElem?_drop
noncomputable abbrev Yf:=@List.getElem?_replicate
noncomputable abbrev Xf:=@Nat.ne_of_lt
noncomputable abbrev Wf:=@Array.length_toList
noncomputable abbrev Vf:=@Bool.or_true
noncomputable abbrev Qf:=@List.mem_append
noncomputable abbrev Zg:=@List.getElem?_set_ne
noncomputable abbrev Yg:=@List.getElem?_of_mem
noncomputable abbrev Xg:=@List.append_assoc
noncomputable abbrev Wg:=@List.mem_cons
noncomputable abbrev Vg:=@List.filterMap_cons
noncomputable abbrev Qg:=@List.nodup_cons
noncomputable abbrev Zh:=@List.getElem?_reverse
noncomputable abbrev Yh:=@List.map_append
noncomputable abbrev Xh:=@List.getElem?_set
noncomputable abbrev Wh:=@List.length_cons
noncomputable abbrev Vh:=@Nat.min_eq_left
noncomputable abbrev Qh:=@List.getElem?_set_self
noncomputable abbrev Zi:=@List.mem_range
noncomputable abbrev Yi:=@List.mem_map
noncomputable abbrev Xi:=@List.mem_append_left
noncomputable abbrev Wi:=@List.mem_of_getElem?
noncomputable abbrev Vi:=@List.all_eq_true
noncomputable abbrev Qi:=@List.map_congr_left
noncomputable abbrev Zj:=@Array.toList_append
noncomputable abbrev Yj:=@Int.natCast_nonneg
noncomputable abbrev Xj:=@List.map_map
noncomputable abbrev Wj:=@Int.toNat_natCast
noncomputable abbrev Vj:=@Nat.zero_le
noncomputable abbrev Qj:=@List.take_of_length_le
noncomputable abbrev Zk:=@List.all_cons
noncomputable abbrev Yk:=@Bool.eq_iff_iff
namespace L2
open PySem PySem.Spec PyProof.Rows
noncomputable abbrev Key:=Sum Int Str
noncomputable def t9:Key->Value->Bool
 | .inl k,v=>Value.isInt k v
 | .inr x,v=>Value.isStrOf x v
noncomputable def xL(w:World):Key->Int
 | .inl k=>hashInt k
 | .inr x=>hashStr w x
theorem bw:∀{k:Key}{v:Value},t9 k v=true->(∃i t,k=Sum.inl i/\v=Value.int i t)∨(∃x t,k=Sum.inr x/\v=Value.str x t)
 | .inl i,v,h=>by
  obtain⟨t,e⟩:=Value.isInt_shape (k:=i) (v:=v) h;exact .inl ⟨i,t,rfl,e⟩
 | .inr x,v,h=>by
  obtain⟨t,e⟩:=Value.isStrOf_shape (x:=x) (v:=v) h;exact .inr ⟨x,t,rfl,e⟩
theorem uS(a b:Int):decide ((Sum.inl a:Key)=Sum.inl b)=(a == b):=by
 by_cases e:a=b
 ·subst e;simp
 ·have h:¬ (Sum.inl a:Key)=Sum.inl b:=fun q=>e (Sum.inl.inj q);rw[decide_eq_false h];exact(beq_eq_false_iff_ne.mpr e).symm
theorem uT(a b:Str):decide ((Sum.inr a:Key)=Sum.inr b)=decide (a=b):=by
 by_cases e:a=b
 ·subst e;simp
 ·have h:¬ (Sum.inr a:Key)=Sum.inr b:=fun q=>e (Sum.inr.inj q);rw[decide_eq_false h,decide_eq_false e]
theorem uU(a:Int)(b:Str):decide ((Sum.inl a:Key)=Sum.inr b)=false:=decide_eq_false (fun q=>nomatch q)
theorem uV(a:Str)(b:Int):decide ((Sum.inr a:Key)=Sum.inl b)=false:=decide_eq_false (fun q=>nomatch q)
noncomputable def nt(prog:Program)(w:World):PySem.KeyKind prog w Key where
 is:=t9
 hash:=xL w
 inj:=fun v a b ha hb=>by
  rcases bw ha with⟨i,t,rfl,rfl⟩|⟨x,t,rfl,rfl⟩
  ·rcases bw hb with⟨j,u,rfl,e⟩|⟨y,u,rfl,e⟩
   ·injection e with e1 _;rw[e1]
   ·exact nomatch e
  ·rcases bw hb with⟨j,u,rfl,e⟩|⟨y,u,rfl,e⟩
   ·exact nomatch e
   ·injection e with e1 _;rw[e1]
 byValue:=fun k v h=>by
  rcases bw h with⟨i,t,rfl,rfl⟩|⟨x,t,rfl,rfl⟩<;>rfl
 pyHash:=fun hv h=>by
  rcases bw hv with⟨i,t,rfl,rfl⟩|⟨x,t,rfl,rfl⟩
  ·exact wpAny_pyHash_int h
  ·exact wpAny_pyHash_str h
 eqBool:=fun hu hv h=>by
  rcases bw hu with⟨i,t,rfl,rfl⟩|⟨x,t,rfl,rfl⟩
  ·rcases bw hv with⟨j,u,rfl,rfl⟩|⟨y,u,rfl,rfl⟩
   ·rw[uS]at h;exact wpAny_eqBool_int h
   ·rw[uU]at h;exact SeqAt.EqAt.int_str i t y u _ _ _ _ h
  ·rcases bw hv with⟨j,u,rfl,rfl⟩|⟨y,u,rfl,rfl⟩
   ·rw[uV]at h;exact SeqAt.EqAt.str_int x t j u _ _ _ _ h
   ·rw[uT]at h;exact wpAny_eqBool_str h
 «strs»:=fun k x t v h=>by
  rcases bw h with⟨i,u,rfl,e⟩|⟨y,u,rfl,e⟩
  ·exact nomatch e
  ·injection e with e1 _
   subst e1;cases v<;>rfl
end L2
namespace L2
open PySem PySem.Spec PyProof.Rows
inductive V where
 | non|bl (b:Bool)|int (i:Int)|str (x:Str)|byt (b:Array UInt8)|flt (b:UInt64)|ref (a:Addr)|ty (n:String)
 deriving DecidableEq
noncomputable def RelV:V->Value->Prop
 | .non,u=>u=Value.none
 | .bl b,u=>u=Value.bool b
 | .int i,u=>∃t,u=Value.int i t
 | .str x,u=>∃t,u=Value.str x t
 | .byt b,u=>∃t,u=Value.bytes b t
 | .flt b,u=>∃t,u=Value.float b t
 | .ref a,u=>u=Value.ref a
 | .ty n,u=>u=Value.type n
noncomputable abbrev Vals:List V->List Value->Prop:=Paired RelV
theorem Vals.length{xs:List V}{us:List Value}(r:Vals xs us):xs.length=us.length:=Paired.length r
theorem Vals.get:∀{xs:List V}{us:List Value}{i:Nat}{x:V},Vals xs us->xs[i]?=some x->∃u,us[i]?=some u/\RelV x u
 | _,_,_,_,.nil,e=>by simp at e
 | _,_,0,_,.cons r _,e=>by simp at e;subst e;exact⟨_,rfl,r⟩
 | _,_,i+1,x,.cons _ t,e=>by
  obtain⟨u,h1,h2⟩:=Vals.get (i:=i) (x:=x) t (by simpa using e)
  exact⟨u,by simpa using h1,h2⟩
theorem Vals.set{x:V}{u:Value}(r:RelV x u):∀{xs:List V}{us:List Value}(i:Nat),Vals xs us->Vals (xs.set i x) (us.set i u)
 | _,_,_,.nil=>.nil
 | _,_,0,.cons _ t=>.cons r t
 | _,_,i+1,.cons q t=>.cons q (Vals.set r i t)
theorem Vals.append:∀{xs ys:List V}{us ws:List Value},Vals xs us->Vals ys ws->Vals (xs++ys) (us++ws)
 | _,_,_,_,.nil,s=>s
 | _,_,_,_,.cons r t,s=>.cons r (Vals.append t s)
theorem Vals.take:∀{xs:List V}{us:List Value}(n:Nat),Vals xs us->Vals (xs.take n) (us.take n)
 | _,_,0,_=>.nil
 | _,_,_+1,.nil=>.nil
 | _,_,n+1,.cons r t=>.cons r (Vals.take n t)
theorem Vals.drop:∀{xs:List V}{us:List Value}(n:Nat),Vals xs us->Vals (xs.drop n) (us.drop n)
 | _,_,0,r=>r
 | _,_,_+1,.nil=>.nil
 | _,_,n+1,.cons _ t=>Vals.drop n t
noncomputable def RelO:Option V->Option Value->Prop
 | some v,some u=>RelV v u
 | none,none=>True
 | _,_=>False
noncomputable def KV{κ:Type}:List (κ×V)->List (κ×Value)->Prop:=Paired fun(p:κ×V) (q:κ×Value)=>p.1=q.1/\RelV p.2 q.2
noncomputable def kV:Key->V
 | .inl i=>.int i
 | .inr x=>.str x
inductive HO where
  | lst (xs:List V)
  | tup (xs:List V)
  | dK (kvs:List (Key×V))|dT (ep:Nat×List Addr) (kvs:List (List Key×V))
  | set (S:Int->Bool) (n:Nat)
  | ins (C dx:Addr) (fs:List (Str×V))
  | own (x:Addr)
  | xd (fs:List (Str×V))
  | met (f x:Addr)
  | rng (lo hi:Int)
  | frz (o:Obj) (u:HO)
  | tbl (ps:Array Value)
  | ext (φ:Heap->Prop)
noncomputable abbrev Hp:=Addr->Option HO
noncomputable def upd(H:Hp)(a:Addr)(o:HO):Hp:=fun b=>if b=a then some o else H b
theorem ay{H:Hp}{a:Addr}{o:HO}:upd H a o a=some o:=by unfold upd;rw[if_pos rfl]
theorem ao{H:Hp}{a b:Addr}{o:HO}(h:b≠a):upd H a o b=H b:=by unfold upd;rw[if_neg h]
theorem aR{H:Hp}{a b:Addr}{o:HO}(h:H a=some o)(h':H b=none):a≠b:=by
 intro e;subst e;rw[h]at h';cases h'
section
variable (P:Program)(w:World)
noncomputable def ObjOk(H:Hp)(h:Heap)(a:Addr):HO->Prop
 | .lst xs=>xs.length<=sizeLine/\∃(its:List Value)(n:Nat),Vals xs its/\h.get? a=some { cls:=.type "list",data:=.seq its.toArray n }
 | .tup xs=>xs.length<=sizeLine/\∃its:List Value,Vals xs its/\IsTup h a its.toArray
 | .dK kvs=>kvs.length<=sizeLine/\(a == sysModules)=false/\∃vs,KV kvs vs/\h.DictOf (nt P w) a vs
 | .dT ep kvs=>kvs.length<=sizeLine/\(a == sysModules)=false/\∃xs:List (List Key×Addr×Value),
   Paired (fun(p:List Key×V) (q:List Key×Addr×Value)=>p.1=q.1/\H q.2.1=some (.tup (p.1.map kV))/\RelV p.2 q.2.2) kvs xs /\
   xs.map (·.2.1)=ep.2/\∃o es,h.get? a=some o/\o.ExactDict/\o.data=.dict es ep.1/\es.toList=xs.map (entryOfKey (tupleKind (nt P w)))/\(xs.map (·.1)).Nodup
 | .set S n=>h.SetOf (intKind P w) a S n
 | .ins C dx fs=>H dx=some (.own a)/\fs.length<=1000/\dx≠a/\h.get? a=some (PySem.W.instObj C dx) /\
   ∃mA,h.Ns1 dx mA/\(∀f,RelO (fs.lookup f) (mA f))/\PySem.Within mA (fs.map (·.1))
 | .own _=>∃o,h.get? a=some o
 | .xd fs=>∃mA,h.Ns1 a mA/\∀f,RelO (fs.lookup f) (mA f)
 | .rng lo hi=>∃t u v,h.get? a=some { cls:=.type "range",data:=.fields #[.int lo t,.int hi u,.int 1 v] }
 | .frz o u=>h.get? a=some o/\ObjOk H h a u
 | .tbl ps=>h.get? a=some { cls:=.none,data:=.fields ps }
 | .met f x=>h.get? a=some (PySem.W.methodObj (.ref f) (.ref x))
 | .ext φ=>φ h/\(∃o,h.get? a=some o)/\∀h1 h2:Heap,φ h1->(∀o,h1.get? a=some o->h2.get? a=some o)->φ h2
noncomputable def HOk(H:Hp)(h:Heap):Prop:=∀a o,H a=some o->ObjOk P w H h a o
end
section
variable {P:Program}{w:World}{H H':Hp}{h h':Heap}{a:Addr}{o:HO}
theorem ObjOk.lt(x:ObjOk P w H h a o):a<h.objs.size:=by
 cases o with
 | lst xs=>obtain⟨_,_,_,_,e⟩:=x;exact Heap.lt_size e
 | tup xs=>obtain⟨_,_,_,p⟩:=x;exact p.lt
 | dK kvs=>obtain⟨_,_,_,_,o,_,_,e,_⟩:=x;exact Heap.lt_size e
 | dT ep kvs=>obtain⟨_,_,_,_,_,o,_,e,_⟩:=x;exact Heap.lt_size e
 | set S n=>obtain⟨o,_,_,_,e,_⟩:=x;exact Heap.lt_size e
 | ins C dx fs=>obtain⟨_,_,_,e,_⟩:=x;exact Heap.lt_size e
 | own y=>obtain⟨_,e⟩:=x;exact Heap.lt_size e
 | xd fs=>obtain⟨_,⟨_,_,_,e,_⟩,_⟩:=x;exact Heap.lt_size e
 | rng lo hi=>obtain⟨_,_,_,e⟩:=x;exact Heap.lt_size e
 | frz ob u=>obtain⟨e,_⟩:=x;exact Heap.lt_size e
 | tbl ps=>exact Heap.lt_size (show h.get? a=some _ from x)
 | met f y=>exact Heap.lt_size (show h.get? a=some _ from x)
 | ext φ=>obtain⟨_,⟨_,e⟩,_⟩:=x;exact Heap.lt_size e
theorem Paired.mapP{α β:Type}{F G:α->β->Prop}:∀{l₁:List α}{l₂:List β},Paired F l₁ l₂->(∀a b,F a b->G a b)->Paired G l₁ l₂
 | _,_,.nil,_=>.nil
 | _,_,.cons r t,f=>.cons (f _ _ r) (Paired.mapP t f)
theorem ObjOk.stay(x:ObjOk P w H h a o)(k:∀b u,(b=a∨H b=some (.own a))->h.get? b=some u->h'.get? b=some u)
  (ho:∀b,H b=some (.own a)->H' b=some (.own a))(ht:∀b xs,H b=some (.tup xs)->H' b=some (.tup xs)):ObjOk P w H' h' a o:=by
 induction o with
 | lst xs=>obtain⟨z,its,n,r,e⟩:=x;exact⟨z,its,n,r,k _ _ (.inl rfl) e⟩
 | tup xs=>obtain⟨z,its,r,ob,e,c⟩:=x;exact⟨z,its,r,ob,k _ _ (.inl rfl) e,c⟩
 | dK kvs=>obtain⟨z,y,vs,r,ob,es,ep,e,c⟩:=x;exact⟨z,y,vs,r,ob,es,ep,k _ _ (.inl rfl) e,c⟩
 | dT ep kvs =>
  obtain⟨z,y,xs,r,ra,ob,es,e,c⟩:=x;exact⟨z,y,xs,Paired.mapP r fun p q z=>⟨z.1,ht _ _ z.2.1,z.2.2⟩,ra,ob,es,k _ _ (.inl rfl) e,c⟩
 | set S n=>obtain⟨ob,es,ep,t,e,c⟩:=x;exact⟨ob,es,ep,t,k _ _ (.inl rfl) e,c⟩
 | ins C dx fs =>
  obtain⟨d,z,ne,e,mA,⟨od,es,ep,e2,c⟩,r⟩:=x;exact⟨ho _ d,z,ne,k _ _ (.inl rfl) e,mA,⟨od,es,ep,k _ _ (.inr d) e2,c⟩,r⟩
 | own y=>obtain⟨ob,e⟩:=x;exact⟨ob,k _ _ (.inl rfl) e⟩
 | xd fs=>obtain⟨mA,⟨od,es,ep,e,c⟩,r⟩:=x;exact⟨mA,⟨od,es,ep,k _ _ (.inl rfl) e,c⟩,r⟩
 | rng lo hi=>obtain⟨t,u,v,e⟩:=x;exact⟨t,u,v,k _ _ (.inl rfl) e⟩
 | frz ob u ih=>obtain⟨e,q⟩:=x;exact⟨k _ _ (.inl rfl) e,ih q⟩
 | tbl ps =>
  have e:h.get? a=some { cls:=.none,data:=.fields ps }:=x;show h'.get? a=some { cls:=.none,data:=.fields ps };exact k a _ (.inl rfl) e
 | met f y =>
  have e:h.get? a=some (PySem.W.methodObj (.ref f) (.ref y)):=x;show h'.get? a=some (PySem.W.methodObj (.ref f) (.ref y));exact k a _ (.inl rfl) e
 | ext φ=>obtain⟨p,⟨o,e⟩,st⟩:=x;exact⟨st _ _ p fun o q=>k _ _ (.inl rfl) q,⟨o,k _ _ (.inl rfl) e⟩,st⟩
theorem HOk.lt(x:HOk P w H h)(e:H a=some o):a<h.objs.size:=(x a o e).lt
theorem HOk.fresh(x:HOk P w H h)(e:h.objs.size<=a):H a=none:=by
 cases q:H a with
 | none=>rfl
 | some u=>exact absurd (Yb (x.lt q) e) (Qe _)
theorem HOk.kept(x:HOk P w H h)(k:∀b u,h.get? b=some u->h'.get? b=some u):HOk P w H h':=fun a o e =>
 (x a o e).stay (fun b u _ q=>k b u q) (fun _ q=>q) fun _ _ q=>q
theorem HOk.laid(x:HOk P w H h)(k:∀b u,h.get? b=some u->h'.get? b=some u)(hp:h.objs.size<=a)(new:ObjOk P w (upd H a o) h' a o):HOk P w (upd H a o) h':=fun b u e=>by
 have hn:=x.fresh hp;by_cases hb:b=a
 ·subst hb;rw[ay]at e;cases e;exact new
 ·rw[ao hb]at e;exact(x b u e).stay (fun c v _ q=>k c v q) (fun c q=>by rw[ao (aR q hn)];exact q) fun c xs q=>by rw[ao (aR q hn)];exact q
end
noncomputable def Rd(H:Hp)(a:Addr)(u:HO):Prop:=H a=some u∨∃o,H a=some (.frz o u)
theorem Rd.ok{P:Program}{w:World}{H:Hp}{h:Heap}{a:Addr}{u:HO}(r:Rd H a u)(x:HOk P w H h):ObjOk P w H h a u:=by
 rcases r with r|⟨o,r⟩
 ·exact x a u r
 ·obtain⟨_,q⟩:=x a _ r;exact q
noncomputable def Mut:Option HO->Prop
 | some (.lst _)=>True
 | some (.dK _)=>True
 | some (.dT _ _)=>True
 | some (.set _ _)=>True
 | some (.ins _ _ _)=>True
 | some (.ext _)=>True
 | _=>False
section
variable {P:Program}{w:World}{H:Hp}{h h':Heap}{x e:Addr}{o':HO}
theorem HOk.write(ok:HOk P w H h)(mu:Mut (H x))(he:e=x∨H e=some (.own x))(k:∀b u,b≠e->h.get? b=some u->h'.get? b=some u)(heo:∃u,h'.get? e=some u)
  (new:ObjOk P w (upd H x o') h' x o'):HOk P w (upd H x o') h':=fun b u q=>by
 have nown:∀c y,H c=some (.own y)->c≠x:=fun c y r z=>by subst z;rw[r]at mu;exact mu
 have ntup:∀c xs,H c=some (.tup xs)->c≠x:=fun c xs r z=>by subst z;rw[r]at mu;exact mu
 by_cases hb:b=x
 ·subst hb;rw[ay]at q;cases q;exact new
 ·rw[ao hb]at q;by_cases hbe:b=e
  ·have q':H b=some (.own x):=by
    rcases he with z|z
    ·exact absurd (hbe.trans z) hb
    ·rw[hbe];exact z
   rw[q]at q';cases q';obtain⟨v,hv⟩:=heo;exact⟨v,by rw[hbe];exact hv⟩
  ·refine(ok b u q).stay (fun c v hc r=>k c v ?_ r) (fun c r=>by rw[ao (nown c b r)];exact r) fun c xs r=>by rw[ao (ntup c xs r)];exact r
   rcases hc with rfl|hc
   ·exact hbe
   ·rintro rfl;rcases he with z|z
    ·exact nown c b hc z
    ·rw[hc]at z;cases z;exact hb rfl
end
structure Un(fs ex:List Addr)(H H':Hp)(h h':Heap):Prop where
 keep:∀b o,h.get? b=some o->H b=none->b∉fs->b∉ex->h'.get? b=some o
 slot:∀b o,h.get? b=some o->H b=none->b∈fs->b∉ex->∃sl,h'.get? b=some { o with slots:=sl }
 free:∀b o,h.get? b=some o->H b=none->b∉ex->H' b=none
 there:∀b o,h.get? b=some o->b∉ex->∃o',h'.get? b=some o'
 tups:∀b xs,H b=some (.tup xs)->H' b=some (.tup xs)
 frzs:∀b o u,H b=some (.frz o u)->H' b=some (.frz o u)
 tbls:∀b ps,H b=some (.tbl ps)->∃more,H' b=some (.tbl (ps++more))
section
variable {fs fs' ex ex':List Addr}{H H1 H2:Hp}{h h1 h2 h':Heap}{a x e:Addr}{o:HO}
theorem Un.any(u:Un fs ex H H1 h h1){b:Addr}{ob:Obj}(q:h.get? b=some ob)(n:H b=none)(hx:b∉ex):∃sl,h1.get? b=some { ob with slots:=sl }:=by
 by_cases hb:b∈fs
 ·exact u.slot b ob q n hb hx
 ·exact⟨ob.slots,u.keep b ob q n hb hx⟩
theorem Un.kept(k:∀b u,h.get? b=some u->h'.get? b=some u):Un fs ex H H h h' :=
 ⟨fun b ob q _ _ _=>k b ob q,fun b ob q _ _ _=>⟨ob.slots,k b ob q⟩,fun _ _ _ n _=>n,fun b ob q _=>⟨ob,k b ob q⟩,fun _ _ q=>q,fun _ _ _ q=>q,fun _ ps q=>⟨#[],by rw[q];simp⟩⟩
theorem Un.refl:Un fs ex H H h h:=Un.kept fun _ _ q=>q
theorem Un.laid(k:∀b u,h.get? b=some u->h'.get? b=some u)(hp:h.objs.size<=a)(hn:H a=none):Un fs ex H (upd H a o) h h' where
 keep:=fun b u q _ _ _=>k b u q
 slot:=fun b u q _ _ _=>⟨u.slots,k b u q⟩
 free:=fun b u q n _=>by rw[ao (Xf (Yb (Heap.lt_size q) hp))];exact n
 there:=fun b u q _=>⟨u,k b u q⟩
 tups:=fun b xs q=>by rw[ao (aR q hn)];exact q
 frzs:=fun b u xs q=>by rw[ao (aR q hn)];exact q
 tbls:=fun b ps q=>⟨#[],by rw[ao (aR q hn),q];simp⟩
theorem Un.write(mu:Mut (H x))(he:e=x∨H e=some (.own x))(k:∀b u,b≠e->h.get? b=some u->h'.get? b=some u)(heo:∃u,h'.get? e=some u):Un fs ex H (upd H x o) h h':=by
 have hx:∀b,H b=none->b≠x:=fun b n z=>by subst z;rw[n]at mu;exact mu
 have hb:∀b,H b=none->b≠e:=fun b n z=>by
  subst z;rcases he with r|r
  ·exact hx b n r
  ·rw[n]at r;cases r
 have hm:∀b u,H b=some u->¬ Mut (some u)->b≠x:=fun b u q nm z=>by subst z;rw[q]at mu;exact nm mu
 refine⟨fun b u q n _ _=>k b u (hb b n) q,fun b u q n _ _=>⟨u.slots,k b u (hb b n) q⟩,fun b u q n _=>by rw[ao (hx b n)];exact n,fun b u q _=>?_,
  fun b xs q=>by rw[ao (hm b _ q fun z=>z)];exact q,fun b u xs q=>by rw[ao (hm b _ q fun z=>z)];exact q,fun b ps q=>⟨#[],by rw[ao (hm b _ q fun z=>z),q];simp⟩⟩
 by_cases hbe:b=e
 ·subst hbe;exact heo
 ·exact⟨u,k b u hbe q⟩
end
noncomputable def trk(h:Heap)(H:Hp):List Addr:=(List.range h.objs.size).filter fun a=>(H a).isSome
noncomputable def ki(h:Heap)(H:Hp):Heap:=PySem.W.hideAll h (trk h H)
theorem oG(h:Heap)(H:Hp):(ki h H).objs.size=h.objs.size:=PySem.W.hideAll_size _ _
theorem pC{h:Heap}{H:Hp}{b:Addr}{o:Obj}(e:h.get? b=some o)(n:H b=none):(ki h H).get? b=some o :=
 PySem.W.hideAll_get _ e fun hm=>by
  have q:(H b).isSome=true:=(List.mem_filter.mp hm).2;rw[n]at q;simp at q
theorem rO{h:Heap}{H:Hp}{b:Addr}{o:Obj}(e:(ki h H).get? b=some o):h.get? b=some o/\H b=none:=by
 have e':h.get? b=some o:=PySem.W.of_hideAll (trk h H) e;refine⟨e',?_⟩;cases q:H b with
 | none=>rfl
 | some x =>
  have hm:b∈trk h H:=List.mem_filter.mpr ⟨Zi.mpr (Heap.lt_size e'),by simp[q]⟩
  have z:(ki h H).get? b=none:=PySem.W.hideAll_none (trk h H) hm;rw[z]at e;cases e
end L2
namespace L2
open PySem PySem.Spec PyProof.Rows
structure Mod(K:PySem.W.Frag)(mg:Str->Option Value)(base:Heap):Prop where
 kin:K.In base
 glob:base.Ns mainGlobals mg
 blt:∃mb,base.Ns builtinsNs mb/\∀x:Str,x≠"__name__"->mb x=bootBuiltins x
 nolimit:base.NoLimit
structure Cx where
 prog:Program
 w:World
 K:PySem.W.Frag
 mg:Str->Option Value
 base:Heap
 A:Around
 N:List Str
 s₀:Shared
 H₀:Hp
 env:Env
 outer:List Env
 stack:List Env
 ex:List Addr
 fn:Str->Bool
 calm:Bool
 pn:List (Addr×Obj)
 xe:Value->Shared->Prop
noncomputable def frs(l:List Env):List Addr:=l.filterMap (·.frame)
noncomputable abbrev Cx.fs(X:Cx):List Addr:=frs X.outer
noncomputable def Vis(sc:Scope)(x:Str):Prop:=sc.names.lookup x=some .local∨sc.names.lookup x=some .cell∨sc.names.lookup x=some .free
noncomputable def Loc(sc:Scope)(x:Str):Prop:=sc.names.lookup x=some .local∨sc.names.lookup x=some .cell
noncomputable def Look(env:Env)(h:Heap)(m:Str->Option Value)(x:Str)(u:Value):Prop :=
 (env.kindOf x=some .local/\m x=some u)∨((env.kindOf x=some .cell∨env.kindOf x=some .free)/\∃c,env.cells.lookup x=some c/\h.IsCell c (some u))
structure Cx.Ok(X:Cx):Prop where
 mod:Mod X.K X.mg X.base
 kind:X.env.scope.kind=.function
 glob:X.env.globals=mainGlobals
 blt:X.env.builtins=builtinsNs
 above:X.s₀.heap.objs.size<=X.env.locals
 inj:∀x y c,X.env.cells.lookup x=some c->X.env.cells.lookup y=some c->x=y
 has:∀x,(X.env.kindOf x=some .cell∨X.env.kindOf x=some .free)->∃c,X.env.cells.lookup x=some c
 cab:∀x c,X.fn x=true->X.env.cells.lookup x=some c->X.s₀.heap.objs.size<=c
 hd:X.calm=true->X.A.handled=none
 frames:X.A.frames=some X.stack
 stk:X.stack=X.outer∨(X.stack=X.env::X.outer/\X.env.frame=some X.env.locals)
 exf:∀b∈X.ex,b≠X.env.locals/\∀x c,X.env.cells.lookup x=some c->c≠b
 bs:∀b o,X.base.get? b=some o->X.s₀.heap.get? b=some o/\X.H₀ b=none
 bsz:X.base.objs.size<=X.s₀.heap.objs.size
 noex:∀b o,X.base.get? b=some o->b∉X.ex
 exfs:∀b∈X.ex,b∉X.fs
 funs:X.s₀.heap.FunFrames X.base X.outer
 frf:∀b∈X.fs,X.H₀ b=none
structure Inv(X:Cx)(pins:List (Addr×Obj))(σ:List (Option V))(H:Hp)(s:Shared):Prop where
 ok:X.Ok
 os:s.os=X.s₀.os
 bare:AllBare s.gens
 base:Un X.fs X.ex X.H₀ H X.s₀.heap s.heap
 loc:∃m,s.heap.Ns X.env.locals m/\∀(i:Nat)(x:Str)(v:V),X.N[i]?=some x->σ[i]?=some (some v)->Vis X.env.scope x->∃u,RelV v u/\Look X.env s.heap m x u
 cell:∀x c,X.env.cells.lookup x=some c->∃v,s.heap.IsCell c v
 free:H X.env.locals=none
 freeC:∀x c,X.env.cells.lookup x=some c->H c=none
 pin:∀p∈X.pn++pins,s.heap.get? p.1=some p.2/\H p.1=none/\p.1≠X.env.locals/\p.1∉X.fs/\∀v,p.2.data≠.cell v
 hok:HOk X.prog X.w H s.heap
 len:σ.length=X.N.length
section
variable {X:Cx}{pins:List (Addr×Obj)}{σ:List (Option V)}{H H':Hp}{s:Shared}{h':Heap}
theorem Cx.Ok.nofr(ok:X.Ok){b:Addr}{o:Obj}(e:X.base.get? b=some o):b∉X.fs:=fun hb=>by
 have:=(ok.funs.mem hb).1;rw[e]at this;cases this
theorem Inv.bs(I:Inv X pins σ H s):∀b o,X.base.get? b=some o->s.heap.get? b=some o/\H b=none:=fun b o e =>
 ⟨I.base.keep b o (I.ok.bs b o e).1 (I.ok.bs b o e).2 (I.ok.nofr e) (I.ok.noex b o e),I.base.free b o (I.ok.bs b o e).1 (I.ok.bs b o e).2 (I.ok.noex b o e)⟩
theorem Inv.bk(I:Inv X pins σ H s):∀b o,X.base.get? b=some o->s.heap.get? b=some o:=fun b o e=>(I.bs b o e).1
theorem Inv.mod(I:Inv X pins σ H s):Mod X.K X.mg X.base:=I.ok.mod
theorem Inv.kIn(I:Inv X pins σ H s):X.K.In s.heap:=I.ok.mod.kin.keeps I.bk
theorem Inv.lt(I:Inv X pins σ H s):X.env.locals<s.heap.objs.size:=let ⟨_,hn,_⟩:=I.loc;hn.lt
theorem Inv.sz(I:Inv X pins σ H s):X.s₀.heap.objs.size<=s.heap.objs.size:=Vb I.ok.above (Nat.le_of_lt I.lt)
theorem Inv.nofs(I:Inv X pins σ H s){a:Addr}(h:s.heap.objs.size<=a):a∉X.fs:=fun hb=>by
 obtain⟨_,o,ho,_⟩:=I.ok.funs.mem hb;exact absurd (Yb (Heap.lt_size ho) (Vb I.sz h)) (Qe _)
theorem Inv.cne(I:Inv X pins σ H s):∀x c,X.env.cells.lookup x=some c->c≠X.env.locals:=fun x c e z=>by
 obtain⟨v,o,ho,hd⟩:=I.cell x c e;obtain⟨m,⟨o',es,ep,ho',hd',_⟩,_⟩:=I.loc;rw[z,ho']at ho;cases ho;rw[hd']at hd;cases hd
theorem Inv.funs(I:Inv X pins σ H s):s.heap.FunFrames X.base X.outer:=by
 have all:∀(l:List Env),(∀b∈frs l,b∈X.fs)->X.s₀.heap.FunFrames X.base l->s.heap.FunFrames X.base l:=by
  intro l;induction l with
  | nil=>intro _ _;trivial
  | cons env r ih =>
   intro hs hl;obtain⟨hk,⟨L,o,hf,hn,ho,hd⟩,hr⟩:=hl;have hL:L∈X.fs:=hs L (by unfold frs;rw[Vg,hf];exact Wd)
   obtain⟨sl,e⟩:=I.base.slot L o ho (I.ok.frf L hL) hL fun z=>I.ok.exfs L z hL;exact⟨hk,⟨L,_,hf,hn,e,hd⟩,ih (fun b hb=>hs b (by unfold frs;rw[Vg,hf];exact Xc _ hb)) hr⟩
 exact all X.outer (fun _ hb=>hb) I.ok.funs
theorem Inv.stack(I:Inv X pins σ H s):s.heap.FunFrames X.base X.stack:=by
 rcases I.ok.stk with e|⟨e,hf⟩
 ·rw[e];exact I.funs
 ·rw[e];obtain⟨m,hn,_⟩:=I.loc;refine .cons (by rw[I.ok.kind];decide) hf hn ?_ I.funs
  exact Heap.get?_none_of_le (Vb I.ok.bsz I.ok.above)
theorem Inv.stkSub(I:Inv X pins σ H s):∀b∈frs X.stack,b∈X.env.locals::X.fs:=fun b hb=>by
 rcases I.ok.stk with e|⟨e,hf⟩
 ·rw[e]at hb;exact Xc _ hb
 ·rw[e]at hb;unfold frs at hb;rw[Vg,hf]at hb;exact hb
theorem Inv.stkFree(I:Inv X pins σ H s):∀b∈frs X.stack,H b=none:=fun b hb=>by
 rcases Wg.mp (I.stkSub b hb) with e|hb
 ·rw[e];exact I.free
 ·obtain⟨_,o,ho,_⟩:=I.ok.funs.mem hb;exact I.base.free b o ho (I.ok.frf b hb) fun z=>I.ok.exfs b z hb
theorem Inv.step{g':Array GenState}{t':Nat}{d':Drawn}{ch:List Addr}(I:Inv X pins σ H s)
  (hch:∀b∈ch,(b∈X.ex∨X.s₀.heap.objs.size<=b)/\b≠X.env.locals/\(∀x c,X.env.cells.lookup x=some c->c≠b)/\∀p∈X.pn++pins,p.1≠b)
  (keep:∀b o,b≠X.env.locals->b∉X.fs->b∉ch->s.heap.get? b=some o->H b=none->h'.get? b=some o)
  (slot:∀b o,b≠X.env.locals->b∈X.fs->b∉ch->s.heap.get? b=some o->H b=none->∃sl,h'.get? b=some { o with slots:=sl }) (free:∀b o,b∉ch->s.heap.get? b=some o->H b=none->H' b=none)
  (there:∀b o,b∉ch->s.heap.get? b=some o->∃o',h'.get? b=some o')
  (tups:∀b xs,H b=some (.tup xs)->H' b=some (.tup xs)) (frzs:∀b o u,H b=some (.frz o u)->H' b=some (.frz o u)) (tbls:∀b ps,H b=some (.tbl ps)->∃more,H' b=some (.tbl (ps++more)))
  (ns:∀m,s.heap.Ns X.env.locals m->h'.Ns X.env.locals m) (hok:HOk X.prog X.w H' h') (hg:AllBare g') :
  Inv X pins σ H' { s with heap:=h',gens:=g',drawn:=d',toks:=t' }:=by
 have neL:∀b o,X.s₀.heap.get? b=some o->b≠X.env.locals:=fun b o e=>Xf (Yb (Heap.lt_size e) I.ok.above);have neC:∀b o,X.s₀.heap.get? b=some o->b∉X.ex->b∉ch:=fun b o e hx hb=>by
  rcases(hch b hb).1 with z|z
  ·exact hx z
  ·exact absurd (Yb (Heap.lt_size e) z) (Qe _)
 have cellK:∀x c,X.env.cells.lookup x=some c->∀v,s.heap.IsCell c v->h'.IsCell c v:=fun x c e v ⟨o,ho,hd⟩=>by
  have nch:c∉ch:=fun z=>(hch c z).2.2.1 x c e rfl;by_cases hc:c∈X.fs
  ·obtain⟨sl,q⟩:=slot c o (I.cne x c e) hc nch ho (I.freeC x c e);exact⟨_,q,hd⟩
  ·exact⟨o,keep c o (I.cne x c e) hc nch ho (I.freeC x c e),hd⟩
 refine⟨I.ok,I.os,hg,⟨fun b o e n hb hx=>?_,fun b o e n hb hx=>?_,fun b o e n hx=>?_,fun b o e hx=>?_,fun b xs e=>tups b xs (I.base.tups b xs e),fun b o xs e=>frzs b o xs (I.base.frzs b o xs e),fun b ps e=>?_⟩,?_,fun x c e=>?_,?_,fun x c e=>?_,fun p hp=>?_,hok,I.len⟩
 ·exact keep b o (neL b o e) hb (neC b o e hx) (I.base.keep b o e n hb hx) (I.base.free b o e n hx)
 ·obtain⟨sl,e1⟩:=I.base.slot b o e n hb hx;obtain⟨sl',e2⟩:=slot b _ (neL b o e) hb (neC b o e hx) e1 (I.base.free b o e n hx);exact⟨sl',e2⟩
 ·obtain⟨o',e1⟩:=I.base.there b o e hx;exact free b o' (neC b o e hx) e1 (I.base.free b o e n hx)
 ·obtain⟨o',e1⟩:=I.base.there b o e hx;exact there b o' (neC b o e hx) e1
 ·obtain⟨m1,e1⟩:=I.base.tbls b ps e;obtain⟨m2,e2⟩:=tbls b _ e1;exact⟨m1++m2,by rw[e2,Array.append_assoc]⟩
 ·obtain⟨m,hn,hl⟩:=I.loc;refine⟨m,ns m hn,fun i x v e1 e2 e3=>?_⟩;obtain⟨u,r,l⟩:=hl i x v e1 e2 e3;refine⟨u,r,?_⟩;rcases l with l|⟨k,c,e,z⟩
  ·exact .inl l
  ·exact .inr ⟨k,c,e,cellK x c e _ z⟩
 ·obtain⟨v,z⟩:=I.cell x c e;exact⟨v,cellK x c e v z⟩
 ·obtain⟨m,⟨o,_,_,ho,_⟩,_⟩:=I.loc;exact free _ o (fun z=>(hch _ z).2.1 rfl) ho I.free
 ·obtain⟨v,o,ho,hd⟩:=I.cell x c e;exact free c o (fun z=>(hch c z).2.2.1 x c e rfl) ho (I.freeC x c e)
 ·obtain⟨e,n,ne,nf,d⟩:=I.pin p hp;have nch:p.1∉ch:=fun z=>(hch p.1 z).2.2.2 p hp rfl;exact⟨keep p.1 p.2 ne nf nch e n,free p.1 p.2 nch e n,ne,nf,d⟩
theorem Inv.un{t':Nat}(I:Inv X pins σ H s)(u:Un X.fs [] H H' s.heap h')(hok:HOk X.prog X.w H' h'):Inv X pins σ H' { s with heap:=h',toks:=t' }:=by
 obtain⟨m,⟨o,es,ep,ho,r⟩,_⟩:=id I.loc;obtain⟨sl,hL⟩:=u.any ho I.free (by simp)
 exact I.step (g':=s.gens) (d':=s.drawn) (ch:=[]) (fun _ z=>nomatch z) (fun b o _ hb _ e n=>u.keep b o e n hb (by simp)) (fun b o _ hb _ e n=>u.slot b o e n hb (by simp)) (fun b o _ e n=>u.free b o e n (by simp)) (fun b o _ e=>u.there b o e (by simp)) u.tups u.frzs u.tbls (fun m' hm=>by
  obtain⟨o',es',ep',ho',r'⟩:=hm;rw[ho]at ho';cases ho'
  exact⟨_,es',ep',hL,r'⟩) hok I.bare
theorem Inv.call{g':Array GenState}{t':Nat}{d':Drawn}{ch:List Addr}(I:Inv X pins σ H s)(u:Un (frs X.stack) ch H H' s.heap h')(hok:HOk X.prog X.w H' h')(hg:AllBare g')
  (hch:∀b∈ch,(b∈X.ex∨X.s₀.heap.objs.size<=b)/\b≠X.env.locals/\(∀x c,X.env.cells.lookup x=some c->c≠b)/\∀p∈X.pn++pins,p.1≠b) :
  Inv X pins σ H' { s with heap:=h',gens:=g',drawn:=d',toks:=t' }:=by
 obtain⟨m,⟨o,es,ep,ho,r⟩,_⟩:=id I.loc;obtain⟨sl,hL⟩:=u.any ho I.free fun z=>(hch _ z).2.1 rfl
 exact I.step (ch:=ch) hch (fun b o hL hb hc e n=>u.keep b o e n (fun z=>(Wg.mp (I.stkSub b z)).elim hL hb) hc) (fun b o _ _ hc e n=>u.any e n hc) (fun b o hc e n=>u.free b o e n hc) (fun b o hc e=>u.there b o e hc) u.tups u.frzs u.tbls (fun m' hm=>by
  obtain⟨o',es',ep',ho',r'⟩:=hm;rw[ho]at ho';cases ho'
  exact⟨_,es',ep',hL,r'⟩) hok hg
theorem Inv.turned{t':Nat}{it:Addr}(I:Inv X pins σ H s)(k:∀b o,b≠it->s.heap.get? b=some o->h'.get? b=some o)(hn:H it=none)(hL:it≠X.env.locals)
  (h1:it∈X.ex∨X.s₀.heap.objs.size<=it)(h2:∀x c,X.env.cells.lookup x=some c->c≠it)(h3:∀p∈X.pn++pins,p.1≠it):Inv X pins σ H { s with heap:=h',toks:=t' }:=by
 have nit:∀b u,H b=some u->b≠it:=fun b u e z=>by rw[z,hn]at e;cases e
 refine I.step (g':=s.gens) (d':=s.drawn) (ch:=[it]) (fun b hb=>?_) (fun b o _ _ hc e _=>k b o (fun z=>hc (by simp[z])) e) (fun b o _ _ hc e _=>⟨o.slots,k b o (fun z=>hc (by simp[z])) e⟩) (fun _ _ _ _ n=>n)
  (fun b o hc e=>⟨o,k b o (fun z=>hc (by simp[z])) e⟩) (fun _ _ e=>e) (fun _ _ _ e=>e) (fun b ps e=>⟨#[],by rw[e];simp⟩) (fun m hm=>?_) (fun b u e=>?_) I.bare
 ·have e:b=it:=by simpa using hb
  subst e;exact⟨h1,hL,h2,h3⟩
 ·obtain⟨o,es,ep,ho,r⟩:=hm;exact⟨o,es,ep,k _ o (Ne.symm hL) ho,r⟩
 ·refine(I.hok b u e).stay (fun c v hc q=>k c v ?_ q) (fun _ q=>q) fun _ _ q=>q;rcases hc with z|z
  ·rw[z];exact nit b u e
  ·exact nit c _ z
theorem Inv.tok(I:Inv X pins σ H s)(t:Nat):Inv X pins σ H { s with toks:=t }:=I.un (h':=s.heap) (t':=t) Un.refl I.hok
theorem Inv.kept{t':Nat}(I:Inv X pins σ H s)(k:∀b u,s.heap.get? b=some u->h'.get? b=some u):Inv X pins σ H { s with heap:=h',toks:=t' }:=I.un (Un.kept k) (I.hok.kept k)
theorem Inv.laid{a:Addr}{o:HO}{t':Nat}(I:Inv X pins σ H s)(k:∀b u,s.heap.get? b=some u->h'.get? b=some u)(hp:s.heap.objs.size<=a)(new:ObjOk X.prog X.w (upd H a o) h' a o) :
  Inv X pins σ (upd H a o) { s with heap:=h',toks:=t' }:=I.un (Un.laid k hp (I.hok.fresh hp)) (I.hok.laid k hp new)
theorem Inv.write{x e:Addr}{o:HO}{t':Nat}(I:Inv X pins σ H s)(mu:Mut (H x))(he:e=x∨H e=some (.own x))(k:∀b u,b≠e->s.heap.get? b=some u->h'.get? b=some u)(heo:∃u,h'.get? e=some u)
  (new:ObjOk X.prog X.w (upd H x o) h' x o):Inv X pins σ (upd H x o) { s with heap:=h',toks:=t' }:=I.un (Un.write mu he k heo) (I.hok.write mu he k heo new)
theorem Inv.weak{σ':List (Option V)}(I:Inv X pins σ H s)(hl:σ'.length=σ.length)(w:∀(i:Nat) v,σ'[i]?=some (some v)->σ[i]?=some (some v)):Inv X pins σ' H s :=
 ⟨I.ok,I.os,I.bare,I.base,let ⟨m,hn,hl'⟩:=I.loc;⟨m,hn,fun i x v e1 e2 e3=>hl' i x v e1 (w i v e2) e3⟩,I.cell,I.free,I.freeC,I.pin,I.hok,hl.trans I.len⟩
theorem Inv.pins_of{pins':List (Addr×Obj)}(I:Inv X pins σ H s)(h:∀p∈pins',s.heap.get? p.1=some p.2/\H p.1=none/\p.1≠X.env.locals/\p.1∉X.fs/\∀v,p.2.data≠.cell v):Inv X pins' σ H s :=
 ⟨I.ok,I.os,I.bare,I.base,I.loc,I.cell,I.free,I.freeC,fun p hp=>(Qf.mp hp).elim (fun z=>I.pin p (Xi _ z)) (h p),I.hok,I.len⟩
theorem iU{N:List Str}(hN:N.Nodup){i j:Nat}{x:Str}(a:N[i]?=some x)(b:N[j]?=some x):i=j:=by
 obtain⟨h1,e1⟩:=Wa.mp a;obtain⟨h2,e2⟩:=Wa.mp b;exact(List.getElem_inj hN).mp (e1.trans e2.symm)
theorem oH{M:Model}{A:Around}{E:Value->Shared->Prop}{i:Nat}{x:Str}{v:V}{u:Value}{Q:Unit->Shared->Prop}(I:Inv X pins σ H s)(hN:X.N.Nodup)(hi:X.N[i]?=some x)(hx:Loc X.env.scope x)(r:RelV v u)
  (h:∀s',Inv X pins (σ.set i (some v)) H s'->(∃a,Heap.SameBut a s.heap s'.heap/\(a=X.env.locals∨X.env.cells.lookup x=some a))->Q () s')(hf:X.fn x=true∨X.env.scope.names.lookup x=some .local:=by first|exact .inl rfl|exact .inr rfl|assumption):wpAny M A (storeName X.env x u) Q E s:=by
 obtain⟨m,hn,hl⟩:=id I.loc;have hcls:(X.env.scope.kind == .class||(X.env.scope.kind == .module&&X.env.locals != X.env.globals))=false:=by rw[I.ok.kind];rfl
 have hiσ:i<σ.length:=by rw[I.len];exact(Wa.mp hi).1
 have cne:=I.cne;have tracked:∀{a:Addr}{h':Heap},(∃o,s.heap.get? a=some o/\H a=none)->Heap.SameBut a s.heap h'->HOk X.prog X.w H h':=fun {a h'} ha hs b ob e=>by
  obtain⟨_,_,hfree⟩:=ha;refine(I.hok b ob e).stay (fun c w' hc q=>(hs.2 c ?_).trans q) (fun _ q=>q) fun _ _ q=>q;rintro rfl;rcases hc with rfl|hc
  ·rw[hfree]at e;cases e
  ·rw[hfree]at hc;cases hc
 rcases hx with hk|hk
 ·refine wpAny_storeName_local hk hn (fun h' hn' hs=>?_) hcls;obtain⟨oL,_,_,hoL,_⟩:=id hn;refine h _ ⟨I.ok,I.os,I.bare,⟨fun b o e n hb hx=>?_,fun b o e n hb hx=>?_,I.base.free,fun b o e hx=>?_,I.base.tups,I.base.frzs,I.base.tbls⟩,⟨_,hn',fun j y v' e1 e2 e3=>?_⟩,fun y c e=>?_,I.free,I.freeC,fun p hp=>?_,tracked ⟨oL,hoL,I.free⟩ hs,by simpa using I.len⟩ ⟨_,hs,.inl rfl⟩
  ·exact(hs.2 b (Xf (Yb (Heap.lt_size e) I.ok.above))).trans (I.base.keep b o e n hb hx)
  ·obtain⟨sl,e1⟩:=I.base.slot b o e n hb hx;exact⟨sl,(hs.2 b (Xf (Yb (Heap.lt_size e) I.ok.above))).trans e1⟩
  ·obtain⟨o',e1⟩:=I.base.there b o e hx;exact⟨o',(hs.2 b (Xf (Yb (Heap.lt_size e) I.ok.above))).trans e1⟩
  ·by_cases hj:j=i
   ·subst hj;rw[hi]at e1;cases e1;rw[Qh hiσ]at e2;cases e2;exact⟨u,r,.inl ⟨hk,by simp⟩⟩
   ·rw[Zg (Ne.symm hj)]at e2;obtain⟨u',r',q⟩:=hl j y v' e1 e2 e3;refine⟨u',r',?_⟩;rcases q with⟨k,e⟩|⟨k,c,e,z⟩
    ·refine .inl ⟨k,?_⟩;have:y≠x:=fun e=>hj (iU hN e1 (e ▸ hi));simp[this,e]
    ·exact .inr ⟨k,c,e,z.sameBut hs (cne y c e)⟩
  ·obtain⟨w',z⟩:=I.cell y c e;exact⟨w',z.sameBut hs (cne y c e)⟩
  ·obtain⟨e,n,ne,nf,d⟩:=I.pin p hp;exact⟨(hs.2 p.1 ne).trans e,n,ne,nf,d⟩
 ·have hfn:X.fn x=true:=by
   rcases hf with z|z
   ·exact z
   ·rw[z]at hk;cases hk
  obtain⟨c,hc⟩:=I.ok.has x (.inl hk);obtain⟨w',z⟩:=I.cell x c hc;refine wpAny_storeName_cell I.ok.kind hk hc z (fun h' hc' hs=>?_);obtain⟨oc,hoc,hocd⟩:=id z;refine h { s with heap:=h' } ⟨I.ok,I.os,I.bare,⟨fun b o e n hb hx=>?_,fun b o e n hb hx=>?_,I.base.free,fun b o e hx=>?_,I.base.tups,I.base.frzs,I.base.tbls⟩,⟨m,hn.sameBut hs (Ne.symm (cne x c hc)),fun j y v' e1 e2 e3=>?_⟩,fun y c' e=>?_,I.free,I.freeC,fun p hp=>?_,tracked ⟨oc,hoc,I.freeC x c hc⟩ hs,by simpa using I.len⟩ ⟨c,hs,.inr hc⟩
  ·exact(hs.2 b (Xf (Yb (Heap.lt_size e) (I.ok.cab x c hfn hc)))).trans (I.base.keep b o e n hb hx)
  ·obtain⟨sl,e1⟩:=I.base.slot b o e n hb hx;exact⟨sl,(hs.2 b (Xf (Yb (Heap.lt_size e) (I.ok.cab x c hfn hc)))).trans e1⟩
  ·obtain⟨o',e1⟩:=I.base.there b o e hx;exact⟨o',(hs.2 b (Xf (Yb (Heap.lt_size e) (I.ok.cab x c hfn hc)))).trans e1⟩
  ·by_cases hj:j=i
   ·subst hj;rw[hi]at e1;cases e1;rw[Qh hiσ]at e2;cases e2;exact⟨u,r,.inr ⟨.inl hk,c,hc,hc'⟩⟩
   ·rw[Zg (Ne.symm hj)]at e2;obtain⟨u',r',q⟩:=hl j y v' e1 e2 e3;refine⟨u',r',?_⟩;rcases q with q|⟨k,c',e,z'⟩
    ·exact .inl q
    ·refine .inr ⟨k,c',e,z'.sameBut hs ?_⟩;rintro rfl;exact hj (iU hN e1 (I.ok.inj _ _ _ e hc ▸ hi))
  ·by_cases hcc:c'=c
   ·subst hcc;exact⟨_,hc'⟩
   ·obtain⟨w2,z2⟩:=I.cell y c' e;exact⟨w2,z2.sameBut hs hcc⟩
  ·obtain⟨e,n,ne,nf,d⟩:=I.pin p hp;refine⟨(hs.2 p.1 ?_).trans e,n,ne,nf,d⟩;intro q;rw[q,hoc]at e;have q':oc=p.2:=Option.some.inj e;exact d w' (by rw[← q'];exact hocd)
theorem iV{M:Model}{A:Around}{E:Value->Shared->Prop}{i:Nat}{x:Str}{v:V}{u:Value}{Q:Unit->Shared->Prop}(I:Inv X pins σ H s)(hN:X.N.Nodup)(hi:X.N[i]?=some x)(hx:Loc X.env.scope x)(r:RelV v u)
  (h:∀s',Inv X pins (σ.set i (some v)) H s'->Q () s')(hf:X.fn x=true∨X.env.scope.names.lookup x=some .local:=by first|exact .inl rfl|exact .inr rfl|assumption):wpAny M A (storeName X.env x u) Q E s :=
 oH I hN hi hx r (fun s' I' _=>h s' I') hf
theorem Inv.call'{s':Shared}{ch:List Addr}(I:Inv X pins σ H s)(ho:s'.os=s.os)(u:Un (frs X.stack) ch H H' s.heap s'.heap)(hok:HOk X.prog X.w H' s'.heap)(hg:AllBare s'.gens)
  (hch:∀b∈ch,(b∈X.ex∨X.s₀.heap.objs.size<=b)/\b≠X.env.locals/\(∀x c,X.env.cells.lookup x=some c->c≠b)/\∀p∈X.pn++pins,p.1≠b):Inv X pins σ H' s':=by
 obtain⟨h',g',d',t',o'⟩:=s';have e:o'=s.os:=ho;subst e;exact I.call (g':=g') (t':=t') (d':=d') u hok hg hch
end
noncomputable abbrev XK:=Value->Option Addr->Hp->Prop
noncomputable abbrev St:=List (Option V)
noncomputable abbrev VK:=V->Hp->Prop
noncomputable abbrev TE:=St->Hp->VK->Prop
noncomputable abbrev TT:=St->Hp->(Bool->Hp->Prop)->Prop
noncomputable abbrev TA:=St->Hp->(List V->Hp->Prop)->Prop
structure Ends where
 nx:St->Hp->Prop
 rt:VK
 bk:St->Hp->Prop:=fun _ _=>False
 ct:St->Hp->Prop:=fun _ _=>False
noncomputable abbrev TS:=Ends->St->Hp->Prop
inductive EP(X:Cx)(pins:List (Addr×Obj))(σ:St)(Q:VK)(u:Value)(s':Shared):Prop
 | mk (v:V) (H':Hp) (I:Inv X pins σ H' s') (r:RelV v u) (q:Q v H')
noncomputable def TP(X:Cx)(pins:List (Addr×Obj))(σ:St)(Q:Bool->Hp->Prop)(b:Bool)(s':Shared):Prop:=∃H',Inv X pins σ H' s'/\Q b H'
inductive AP(X:Cx)(pins:List (Addr×Obj))(σ:St)(Q:List V->Hp->Prop)(us:List Value)(s':Shared):Prop
 | mk (vs:List V) (H':Hp) (I:Inv X pins σ H' s') (r:Vals vs us) (q:Q vs H')
noncomputable def SP(X:Cx)(pins:List (Addr×Obj))(D:Ends)(f:Flow)(s':Shared):Prop :=
 match f with
 | .next=>∃σ' H',Inv X pins σ' H' s'/\D.nx σ' H'
 | .brk=>∃σ' H',Inv X pins σ' H' s'/\D.bk σ' H'
 | .cont=>∃σ' H',Inv X pins σ' H' s'/\D.ct σ' H'
 | .ret u=>∃v σ' H',Inv X pins σ' H' s'/\RelV v u/\D.rt v H'
noncomputable def PE(X:Cx)(e:Expr)(t:TE):Prop :=
 ∀(pins:List (Addr×Obj))(s:Shared)(σ:St)(H:Hp)(Q:VK),Inv X pins σ H s->t σ H Q->wpAny (model X.prog X.w) X.A (eval e X.env) (EP X pins σ Q) X.xe s
noncomputable def PT(X:Cx)(e:Expr)(t:TT):Prop :=
 ∀(pins:List (Addr×Obj))(s:Shared)(σ:St)(H:Hp)(Q:Bool->Hp->Prop),Inv X pins σ H s->t σ H Q->wpAny (model X.prog X.w) X.A (isTrue e X.env (eval e X.env)) (TP X pins σ Q) X.xe s
noncomputable def PW(X:Cx)(e:Expr)(t:TT):Prop :=
 ∀(whole:Sem Value)(pins:List (Addr×Obj))(s:Shared)(σ:St)(H:Hp)(Q:Bool->Hp->Prop),Inv X pins σ H s->t σ H Q->wpAny (model X.prog X.w) X.A (isTrue e X.env whole) (TP X pins σ Q) X.xe s
theorem PW.pt{X:Cx}{e:Expr}{t:TT}(h:PW X e t):PT X e t:=h _
noncomputable def PA(X:Cx)(es:List Expr)(t:TA):Prop :=
 ∀(pos:Pos)(pins:List (Addr×Obj))(s:Shared)(σ:St)(H:Hp)(Q:List V->Hp->Prop),Inv X pins σ H s->t σ H Q->wpAny (model X.prog X.w) X.A (spliced (backTo pos (starEach es X.env))) (AP X pins σ Q) X.xe s
noncomputable def PS(X:Cx)(st:Stmt)(t:TS):Prop :=
 ∀(pins:List (Addr×Obj))(s:Shared)(σ:St)(H:Hp)(D:Ends),Inv X pins σ H s->t D σ H->wpAny (model X.prog X.w) X.A (exec st X.env) (SP X pins D) X.xe s
noncomputable def PSs(X:Cx)(st:List Stmt)(t:TS):Prop :=
 ∀(pins:List (Addr×Obj))(s:Shared)(σ:St)(H:Hp)(D:Ends),Inv X pins σ H s->t D σ H->wpAny (model X.prog X.w) X.A (execs st X.env) (SP X pins D) X.xe s
theorem thn{α:Type}{t:Sem α}{Q Q':α->Shared->Prop}{M:Model}{A:Around}{E:Value->Shared->Prop}{s:Shared}(h:wpAny M A t Q E s)(hQ:∀a s,Q a s->Q' a s):wpAny M A t Q' E s:=wpAny_mono h hQ fun _ _ x=>x
end L2
namespace L2
open PySem PySem.Spec PyProof.Rows
section
variable {X:Cx}
noncomputable def gu(i:Nat):TE:=fun σ H Q=>∃v,σ[i]?=some (some v)/\Q v H
noncomputable def tC(v:V):TE:=fun _ H Q=>Q v H
theorem uW{i:Nat}{x:Str}{pos:Pos}(hN:X.N[i]?=some x)(hv:Vis X.env.scope x)(hd:(x == ("__debug__":Str))=false:=by decide)(hcd:(x == ("__classdict__":Str))=false:=by decide):PE X (.Name x pos) (gu i):=by
 intro pins s σ H Q I h;obtain⟨v,e,h⟩:=h;obtain⟨m,hn,hl⟩:=I.loc;obtain⟨u,r,l⟩:=hl i x v hN e hv;have fin:EP X pins σ Q u s:=⟨v,H,I,r,h⟩;rcases l with⟨hk,hm⟩|⟨hk,c,hc,hcell⟩
 ·exact wpAny_Name (wpAny_loadName_local I.ok.kind hk hn hm fin) hd
 ·rcases hk with hk|hk
  ·exact wpAny_Name (wpAny_loadName_cell I.ok.kind hk hc hcell fin) hd
  ·exact wpAny_Name (wpAny_loadName_free I.ok.kind hk hc hcell fin hcd) hd
theorem ae{i j pos}:PE X (.Constant (.int i) j pos) (tC (.int i)):=fun _ _ _ H _ I h=>wpAny_Constant_int ⟨.int i,H,I.tok _,⟨_,rfl⟩,h⟩
theorem jI{b j pos}:PE X (.Constant (.bool b) j pos) (tC (.bl b)):=fun _ _ _ H _ I h=>Constant_bool ⟨.bl b,H,I,rfl,h⟩
theorem iW{j pos}:PE X (.Constant .none j pos) (tC .non):=fun _ _ _ H _ I h=>Constant_none ⟨.non,H,I,rfl,h⟩
theorem bB{x j pos}:PE X (.Constant (.str x) j pos) (tC (.str x)):=fun _ _ _ H _ I h=>Calls.Constant_str ⟨.str x,H,I.tok _,⟨_,rfl⟩,h⟩
noncomputable def Gl(X:Cx)(x:Str):Prop:=X.env.kindOf x=some .globalImplicit
theorem fw{E:Value->Shared->Prop}{pins:List (Addr×Obj)}{s:Shared}{σ:St}{H:Hp}{x:Str}{u:Value}{pos:Pos}{Q:Value->Shared->Prop}(I:Inv X pins σ H s)(hg:Gl X x)(hm:X.mg x=some u)(h:Q u s)
  (hd:(x == ("__debug__":Str))=false:=by decide):wpAny (model X.prog X.w) X.A (eval (.Name x pos) X.env) Q E s :=
 Calls.Name_function_global I.ok.kind hg (Calls.loadGlobal_global (by rw[I.ok.glob];exact I.mod.glob.keeps I.bk) hm h) hd
theorem iX{E:Value->Shared->Prop}{pins:List (Addr×Obj)}{s:Shared}{σ:St}{H:Hp}{x:Str}{u:Value}{pos:Pos}{Q:Value->Shared->Prop}(I:Inv X pins σ H s)(hg:Gl X x)(hm:X.mg x=none)(hv:bootBuiltins x=some u)(h:Q u s)
  (hn:x≠"__name__":=by decide)(hd:(x == ("__debug__":Str))=false:=by decide):wpAny (model X.prog X.w) X.A (eval (.Name x pos) X.env) Q E s:=by
 obtain⟨mb,h1,h2⟩:=I.mod.blt;exact Calls.Name_function_global I.ok.kind hg (Calls.loadGlobal_builtin (by rw[I.ok.glob];exact I.mod.glob.keeps I.bk) hm (by rw[I.ok.blt];exact h1.keeps I.bk) ((h2 x hn).trans hv) h) hd
theorem rP{x:Str}{v:V}{u:Value}{pos:Pos}(hg:Gl X x)(hm:X.mg x=some u)(r:RelV v u)(hd:(x == ("__debug__":Str))=false:=by decide):PE X (.Name x pos) (tC v) :=
 fun _ _ _ H _ I h=>fw I hg hm ⟨v,H,I,r,h⟩ hd
theorem rQ{x:Str}{v:V}{u:Value}{pos:Pos}(hg:Gl X x)(hm:X.mg x=none)(hv:bootBuiltins x=some u)(r:RelV v u)(hn:x≠"__name__":=by decide)(hd:(x == ("__debug__":Str))=false:=by decide):PE X (.Name x pos) (tC v) :=
 fun _ _ _ H _ I h=>iX I hg hm hv ⟨v,H,I,r,h⟩ hn hd
variable {a b:Expr}{ta tb:TE}{pos:Pos}
noncomputable def tB(t:TE):TT:=fun σ H Q=>t σ H fun x H1=>∃c,x=.bl c/\Q c H1
theorem d6{e:Expr}{t:TE}(h:PE X e t)(he:∀whole,isTrue e X.env whole=(do let v ← whole;standAt e.pos;holding [v] (truthy v)):=by intro _;rfl):PT X e (tB t):=by
 intro pins s σ H Q I hw;refine isTrue_plain (thn (h pins s σ H _ I hw) fun v s1 zz9=>?_) (he _);obtain⟨x,H1,I1,r1,q1⟩:=zz9;obtain⟨d,rfl,q⟩:=q1;cases r1;exact wpAny_truthy_bool ⟨H1,I1,q⟩
variable {tA tB':TT}{rest:List Expr}
noncomputable def wt(t u:TT):TT:=fun σ H Q=>t σ H fun c H1=>if c=true then u σ H1 Q else Q false H1
noncomputable def tOr(t u:TT):TT:=fun σ H Q=>t σ H fun c H1=>if c=true then Q true H1 else u σ H1 Q
noncomputable def wu(t:TT):TT:=fun σ H Q=>t σ H fun c H1=>Q (!c) H1
theorem rR(ha:PT X a tA):PW X (.BoolOp .And [a] pos) tA:=by
 intro wh pins s σ H Q I h;refine isTrue_and (thn (ha pins s σ H Q I h) fun c s1 e=>?_);cases c with
 | true=>exact isTrue_and_nil e
 | false=>exact e
theorem mj(ha:PT X a tA):PW X (.BoolOp .Or [a] pos) tA:=by
 intro wh pins s σ H Q I h;refine isTrue_or (thn (ha pins s σ H Q I h) fun c s1 e=>?_);cases c with
 | false=>exact isTrue_or_nil e
 | true=>exact e
theorem uX(ha:PT X a tA)(hb:PW X (.BoolOp .And (b::rest) pos) tB'):PW X (.BoolOp .And (a::b::rest) pos) (wt tA tB'):=by
 intro wh pins s σ H Q I h;refine isTrue_and (thn (ha pins s σ H _ I h) fun c s1 zz9=>?_);obtain⟨H1,I1,q1⟩:=zz9;cases c with
 | true=>exact hb wh pins s1 σ H1 Q I1 q1
 | false=>exact⟨H1,I1,q1⟩
theorem pD(ha:PT X a tA)(hb:PW X (.BoolOp .Or (b::rest) pos) tB'):PW X (.BoolOp .Or (a::b::rest) pos) (tOr tA tB'):=by
 intro wh pins s σ H Q I h;refine isTrue_or (thn (ha pins s σ H _ I h) fun c s1 zz9=>?_);obtain⟨H1,I1,q1⟩:=zz9;cases c with
 | true=>exact⟨H1,I1,q1⟩
 | false=>exact hb wh pins s1 σ H1 Q I1 q1
theorem kj(ha:PT X a tA):PT X (.UnaryOp .Not a pos) (wu tA):=by
 intro pins s σ H Q I h;exact isTrue_not (ha pins s σ H (fun c H1=>Q (!c) H1) I h)
noncomputable def nu(ta tb:TE):TE:=fun σ H Q=>ta σ H fun x H1=>∃c,x=.bl c/\if c=true then tb σ H1 Q else Q (.bl false) H1
noncomputable def ua(ta:TE):TE:=fun σ H Q=>ta σ H fun x H1=>∃c,x=.bl c/\Q (.bl (!c)) H1
theorem iY{op}{t:TE}(h:PE X a t):PE X (.BoolOp op [a] pos) t:=fun pins s σ H Q I hw=>BoolOp_one (h pins s σ H Q I hw)
theorem fZ(ha:PE X a ta)(hb:PE X (.BoolOp .And (b::rest) pos) tb):PE X (.BoolOp .And (a::b::rest) pos) (nu ta tb):=by
 intro pins s σ H Q I h;refine BoolOp_and (thn (ha pins s σ H _ I h) fun v s1 zz9=>?_);obtain⟨x,H1,I1,r1,q1⟩:=zz9;obtain⟨c,rfl,q1⟩:=q1;cases r1;refine wpAny_truthy_bool ?_;cases c with
 | true=>exact hb pins s1 σ H1 Q I1 q1
 | false=>exact⟨.bl false,H1,I1,rfl,q1⟩
theorem uY(ha:PE X a ta):PE X (.UnaryOp .Not a pos) (ua ta):=by
 intro pins s σ H Q I h;refine UnaryOp_ (thn (ha pins s σ H _ I h) fun v s1 zz9=>?_);obtain⟨x,H1,I1,r1,q1⟩:=zz9;obtain⟨c,rfl,q1⟩:=q1;cases r1;exact not_of (wpAny_truthy_bool ⟨.bl (!c),H1,I1,rfl,q1⟩)
noncomputable def tIf(t:TT)(ta tb:TE):TE:=fun σ H Q=>t σ H fun c H1=>if c=true then ta σ H1 Q else tb σ H1 Q
theorem lj{c:Expr}(hc:PT X c tA)(ha:PE X a ta)(hb:PE X b tb):PE X (.IfExp c a b pos) (tIf tA ta tb):=by
 intro pins s σ H Q I h;refine wpAny_IfExp (thn (hc pins s σ H _ I h) fun d s1 zz9=>?_);obtain⟨H1,I1,q1⟩:=zz9;cases d with
 | true=>exact ha pins s1 σ H1 Q I1 q1
 | false=>exact hb pins s1 σ H1 Q I1 q1
end
end L2
namespace L2
open PySem PySem.Spec PyProof.Rows
noncomputable def SqL(K:PySem.W.Frag)(H:Hp)(a:Addr)(xs:List V):Prop :=
 Rd H a (.lst xs) ∨
  ∃(o:Obj)(its:Array Value)(n:Nat),K.lookup a=some o/\o.cls=.type "list"/\o.dict=none/\o.data=.seq its n/\its.size<=sizeLine/\Vals xs its.toList
noncomputable def SqT(K:PySem.W.Frag)(H:Hp)(a:Addr)(xs:List V):Prop :=
 Rd H a (.tup xs) ∨
  ∃(o:Obj)(its:Array Value)(n:Nat),K.lookup a=some o/\o.cls=.type "tuple"/\o.data=.seq its n/\its.size<=sizeLine/\Vals xs its.toList
noncomputable def xM:Value->Option V
 | .none=>some .non
 | .bool b=>some (.bl b)
 | .int i _=>some (.int i)
 | .str x _=>some (.str x)
 | .bytes b _=>some (.byt b)
 | .float b _=>some (.flt b)
 | .ref a=>some (.ref a)
 | .type n=>some (.ty n)
 | _=>none
theorem RelV.abs{x:V}{u:Value}(r:RelV x u):xM u=some x:=by
 cases x with
 | non=>cases r;rfl
 | bl _=>cases r;rfl
 | int _=>obtain⟨t,rfl⟩:=r;rfl
 | str _=>obtain⟨t,rfl⟩:=r;rfl
 | byt _=>obtain⟨t,rfl⟩:=r;rfl
 | flt _=>obtain⟨t,rfl⟩:=r;rfl
 | ref _=>cases r;rfl
 | ty _=>cases r;rfl
theorem RelV.inj{x y:V}{u:Value}(r:RelV x u)(q:RelV y u):x=y:=Option.some.inj (r.abs.symm.trans q.abs)
theorem Vals.inj:∀{xs ys:List V}{us:List Value},Vals xs us->Vals ys us->xs=ys
 | _,_,_,.nil,.nil=>rfl
 | _,_,_,.cons r t,.cons r' t'=>by rw[r.inj r',Vals.inj t t']
section
variable {X:Cx}{pins:List (Addr×Obj)}{σ:St}{H:Hp}{s:Shared}{a:Addr}{xs ys:List V}
theorem Inv.list(I:Inv X pins σ H s)(h:SqL X.K H a xs):∃its:List Value,Vals xs its/\PlainL s.heap a its.toArray/\xs.length<=sizeLine:=by
 rcases h with h|⟨o,its,n,hk,hc,hd,hs,hz,r⟩
 ·obtain⟨z,its,n,r,e⟩:=h.ok I.hok;exact⟨its,r,⟨_,n,e,rfl,rfl,rfl⟩,z⟩
 ·refine⟨its.toList,r,⟨o,n,I.kIn a o hk,hc,hd,by simpa using hs⟩,?_⟩
  have e:=r.length;simp only[Wf]at e;lia
theorem Inv.tuple(I:Inv X pins σ H s)(h:SqT X.K H a xs):∃its:List Value,Vals xs its/\IsTup s.heap a its.toArray/\xs.length<=sizeLine:=by
 rcases h with h|⟨o,its,n,hk,hc,hs,hz,r⟩
 ·obtain⟨z,its,r,p⟩:=h.ok I.hok;exact⟨its,r,p,z⟩
 ·refine⟨its.toList,r,⟨o,I.kIn a o hk,hc,n,by simpa using hs⟩,?_⟩
  have e:=r.length;simp only[Wf]at e;lia
theorem Inv.list_inj(I:Inv X pins σ H s)(h:SqL X.K H a xs)(h':SqL X.K H a ys):xs=ys:=by
 obtain⟨its,r,⟨o,n,e,_,_,d⟩,_⟩:=I.list h;obtain⟨its',r',⟨o',n',e',_,_,d'⟩,_⟩:=I.list h';rw[e]at e';cases e';rw[d]at d';injection d' with d1 _;have:its=its':=by simpa using congrArg Array.toList d1
 subst this;exact r.inj r'
theorem Inv.tuple_inj(I:Inv X pins σ H s)(h:SqT X.K H a xs)(h':SqT X.K H a ys):xs=ys:=by
 obtain⟨its,r,⟨o,e,_,n,d⟩,_⟩:=I.tuple h;obtain⟨its',r',⟨o',e',_,n',d'⟩,_⟩:=I.tuple h';rw[e]at e';cases e';rw[d]at d';injection d' with d1 _;have:its=its':=by simpa using congrArg Array.toList d1
 subst this;exact r.inj r'
end
noncomputable abbrev Cx.wish(X:Cx)(E:Value->Shared->Prop):Cx:={ X with xe:=E }
noncomputable abbrev Cx.nox(X:Cx):Cx:=X.wish fun _ _=>False
theorem Cx.Ok.wish{X:Cx}(ok:X.Ok)(E:Value->Shared->Prop):(X.wish E).Ok :=
 ⟨ok.mod,ok.kind,ok.glob,ok.blt,ok.above,ok.inj,ok.has,ok.cab,ok.hd,ok.frames,ok.stk,ok.exf,ok.bs,ok.bsz,ok.noex,ok.exfs,ok.funs,ok.frf⟩
theorem Cx.Ok.unwish{X:Cx}{E:Value->Shared->Prop}(ok:(X.wish E).Ok):X.Ok :=
 ⟨ok.mod,ok.kind,ok.glob,ok.blt,ok.above,ok.inj,ok.has,ok.cab,ok.hd,ok.frames,ok.stk,ok.exf,ok.bs,ok.bsz,ok.noex,ok.exfs,ok.funs,ok.frf⟩
section
variable {X:Cx}{pins:List (Addr×Obj)}{σ:St}{H:Hp}{s:Shared}{E:Value->Shared->Prop}
theorem Inv.wish(I:Inv X pins σ H s)(E:Value->Shared->Prop):Inv (X.wish E) pins σ H s:=⟨I.ok.wish E,I.os,I.bare,I.base,I.loc,I.cell,I.free,I.freeC,I.pin,I.hok,I.len⟩
theorem Inv.unwish(I:Inv (X.wish E) pins σ H s):Inv X pins σ H s:=⟨I.ok.unwish,I.os,I.bare,I.base,I.loc,I.cell,I.free,I.freeC,I.pin,I.hok,I.len⟩
theorem SP.unwish{D:Ends}{f:Flow}{s':Shared}(h:SP (X.wish E) pins D f s'):SP X pins D f s':=by
 cases f with
 | next=>obtain⟨σ',H',I,q⟩:=h;exact⟨σ',H',I.unwish,q⟩
 | brk=>obtain⟨σ',H',I,q⟩:=h;exact⟨σ',H',I.unwish,q⟩
 | cont=>obtain⟨σ',H',I,q⟩:=h;exact⟨σ',H',I.unwish,q⟩
 | ret u=>obtain⟨v,σ',H',I,r,q⟩:=h;exact⟨v,σ',H',I.unwish,r,q⟩
theorem PSs.nox{st:List Stmt}{t:TS}(h:PSs X.nox st t):PSs X st t:=fun pins s σ H D I hw =>
 wpAny_mono (h pins s σ H D (I.wish _) hw) (fun _ _ q=>q.unwish) fun _ _ z=>False.elim z
end
section
variable {X:Cx}{st:Stmt}{rest:List Stmt}{t u:TS}{e:Expr}{te:TE}{pos:Pos}
noncomputable def nA:TS:=fun D σ H=>D.nx σ H
noncomputable def pE(t u:TS):TS:=fun D σ H=>t { D with nx:=u D } σ H
theorem bp:PSs X [] nA:=fun _ _ σ H _ I h=>wpAny_execs_nil ⟨σ,H,I,h⟩
theorem am(h1:PS X st t)(h2:PSs X rest u):PSs X (st::rest) (pE t u):=by
 intro pins s σ H D I h;refine wpAny_execs_cons (thn (h1 pins s σ H { D with nx:=u D } I h) fun f s1 q=>?_);cases f with
 | next =>
  obtain⟨σ',H',I',q⟩:=q;exact h2 pins s1 σ' H' D I' q
 | ret v=>exact q
 | brk=>exact q
 | cont=>exact q
theorem ar(h1:PS X st t):PSs X [st] t:=by
 intro pins s σ H D I h;refine wpAny_execs_cons (thn (h1 pins s σ H D I h) fun f s1 q=>?_);cases f with
 | next=>exact wpAny_execs_nil q
 | ret v=>exact q
 | brk=>exact q
 | cont=>exact q
theorem Inv.quiet{pins:List (Addr×Obj)}{σ:St}{H:Hp}{s:Shared}(I:Inv X pins σ H s):interactive X.env=false:=by simp[interactive,I.ok.kind]
noncomputable def pF(te:TE):TS:=fun D σ H=>te σ H fun _ H1=>D.nx σ H1
theorem gw(he:PE X e te)(hs:swapsWith e none pos.line X.env=pure false:=by rfl):PS X (.Expr e pos) (pF te):=by
 intro pins s σ H D I h;exact wpAny_Expr_any (thn (he pins s σ H _ I h) fun v s1 ⟨x,H1,I1,r1,q1⟩=>⟨σ,H1,I1,q1⟩) I.quiet hs
noncomputable def wv(te:TE):TS:=fun D σ H=>te σ H D.rt
theorem aH(he:PE X e te):PS X (.Return (some e) pos) (wv te):=by
 intro pins s σ H D I h;exact wpAny_Return_some (thn (he pins s σ H _ I h) fun v s1 ⟨x,H1,I1,r1,q1⟩=>⟨x,σ,H1,I1,r1,q1⟩)
noncomputable def rS(c:TT)(t u:TS):TS:=fun D σ H=>c σ H fun b H1=>if b=true then t D σ H1 else u D σ H1
theorem bU{c:Expr}{a b:List Stmt}{tc:TT}(hc:PT X c tc)(ha:PSs X a t)(hb:PSs X b u):PS X (.If c a b pos) (rS tc t u):=by
 intro pins s σ H D I h;refine wpAny_If (thn (hc pins s σ H _ I h) fun d s1 zz9=>?_);obtain⟨H1,I1,q1⟩:=zz9;cases d with
 | true=>exact ha pins s1 σ H1 D I1 q1
 | false=>exact hb pins s1 σ H1 D I1 q1
end
noncomputable abbrev TG:=V->St->Hp->(St->Hp->Prop)->Prop
noncomputable def PG(X:Cx)(target:Expr)(t:TG):Prop :=
 ∀(pins:List (Addr×Obj))(s:Shared)(σ:St)(H:Hp)(v:V)(u:Value)(Q:St->Hp->Prop),Inv X pins σ H s->RelV v u->t v σ H Q ->
  wpAny (model X.prog X.w) X.A (assign target X.env u) (fun _ s'=>∃σ' H',Inv X pins σ' H' s'/\Q σ' H') X.xe s
noncomputable abbrev pG:=V->V->V->Hp->(Hp->Prop)->Prop
noncomputable def ww(X:Cx)(t:pG):Prop :=
 ∀(pins:List (Addr×Obj))(s:Shared)(σ:St)(H:Hp)(o i v:V)(ov iv u:Value)(Q:Hp->Prop),Inv X pins σ H s->RelV o ov->RelV i iv->RelV v u->t o i v H Q ->
  wpAny (model X.prog X.w) X.A (setItem ov iv u) (fun _ s'=>∃H',Inv X pins σ H' s'/\Q H') X.xe s
section
variable {X:Cx}{pos:Pos}
noncomputable def jJ(i:Nat):TG:=fun v σ H Q=>Q (σ.set i (some v)) H
theorem kl{i:Nat}{x:Str}(hN:X.N.Nodup)(hi:X.N[i]?=some x)(hx:Loc X.env.scope x)(hf:X.fn x=true∨X.env.scope.names.lookup x=some .local:=by first|exact .inl rfl|exact .inr rfl|assumption):PG X (.Name x pos) (jJ i):=by
 intro pins s σ H v u Q I r h;exact wpAny_assign_Name (iV I hN hi hx r (fun s' I'=>⟨_,H,I',h⟩) hf)
noncomputable def wx(to ti:TE)(t:pG):TG:=fun v σ H Q=>to σ H fun o H1=>ti σ H1 fun i H2=>t o i v H2 fun H3=>Q σ H3
theorem f8{o i:Expr}{to ti:TE}{t:pG}(ho:PE X o to)(hi:PE X i ti)(hs:ww X t)
  (ha:∀v,assign (.Subscript o i pos) X.env v=(do
   let ov ← holding [v] (eval o X.env)
   let iv ← holding [v,ov] (eval i X.env)
   standAt pos
   holding [v,ov,iv] (setItem ov iv v)
   release [v,ov,iv] []):=by intro _;rfl):PG X (.Subscript o i pos) (wx to ti t):=by
 intro pins s σ H v u Q I r h;rw[ha];refine wpAny_bind (wpAny_holding (thn (ho pins s σ H _ I h) fun ov s1 zz9=>?_));obtain⟨x,H1,I1,r1,q1⟩:=zz9;refine wpAny_bind (wpAny_holding (thn (hi pins s1 σ H1 _ I1 q1) fun iv s2 zz9=>?_));obtain⟨y,H2,I2,r2,q2⟩:=zz9;refine wpAny_bind (wpAny_standAt (wpAny_bind (wpAny_holding (thn (hs pins s2 σ H2 x y v ov iv u _ I2 r1 r2 r q2) fun _ s3 zz9=>?_))));obtain⟨H3,I3,q3⟩:=zz9;exact wpAny_release ⟨σ,H3,I3,q3⟩
noncomputable def pH(te:TE)(g:TG):TS:=fun D σ H=>te σ H fun x H1=>g x σ H1 D.nx
theorem dG{tg e:Expr}{te:TE}{g:TG}(he:PE X e te)(hg:PG X tg g)(hs:swapsWithSole [tg] e pos.line X.env=pure false:=by rfl)(hw:swappedStores [tg] e X.env=pure none:=by rfl)
  (h1:(assignEach [tg] X.env).map (·.2)=[assign tg X.env]:=by rfl):PS X (.Assign [tg] e pos) (pH te g):=by
 intro pins s σ H D I h;refine wpAny_Assign_stores (thn (he pins s σ H _ I h) fun v s1 zz9=>?_) hs hw;obtain⟨x,H1,I1,r1,q1⟩:=zz9;rw[h1];exact thn (hg pins s1 σ H1 x v _ I1 r1 q1) fun _ s2 q=>q
end
section
variable {X:Cx}{pos:Pos}
noncomputable def pI(c:TT)(tb:TS):TS:=fun D σ H=>∃W:Nat->St->Hp->Prop,(∃m,W m σ H)/\∀m σ H,W m σ H ->
 c σ H fun b H1=>if b=true then ∃N:St->Hp->Prop,(∀σ' H',N σ' H'->∃m',m'<m/\W m' σ' H')/\tb { D with nx:=N,ct:=N,bk:=D.nx } σ H1 else D.nx σ H1
theorem ll{c:Expr}{body:List Stmt}{tc:TT}{tb:TS}(hp:PassesOwn (model X.prog X.w) X.A X.env X.xe)(hc:PT X c tc)(hb:PSs X body tb):PS X (.While c body [] pos) (pI tc tb):=by
 intro pins s σ H D I h;obtain⟨W,⟨m0,w0⟩,turn⟩:=h;refine wpAny_While (codeAny_whileLoop (fun n s'=>∃σ' H',Inv X pins σ' H' s'/\W n σ' H') ?_ m0 ⟨σ,H,I,w0⟩);rintro n s1 ⟨σ1,H1,I1,w1⟩;refine wpAny_passesOwn hp (thn (hc pins s1 σ1 H1 _ I1 (turn n σ1 H1 w1)) fun b s2 zz9=>?_);obtain⟨H2,I2,q2⟩:=zz9;cases b with
 | true =>
  obtain⟨N,hN,q2⟩:=q2;rw[if_pos rfl];refine wpAny_passesOwn hp (thn (hb pins s2 σ1 H2 _ I2 q2) fun f s3 q3=>?_);cases f with
  | next =>
   obtain⟨σ3,H3,I3,n3⟩:=q3;obtain⟨m',hm,w3⟩:=hN σ3 H3 n3;exact⟨m',hm,σ3,H3,I3,w3⟩
  | cont =>
   obtain⟨σ3,H3,I3,n3⟩:=q3;obtain⟨m',hm,w3⟩:=hN σ3 H3 n3;exact⟨m',hm,σ3,H3,I3,w3⟩
  | brk=>exact q3
  | ret v=>exact q3
 | false =>
  rw[if_neg Qa];exact wpAny_execs_nil ⟨σ1,H2,I2,q2⟩
end
structure It where
 go:Nat->Hp->Prop
 yld:Nat->Hp->V->Hp->Prop
 stop:Nat->Hp->Prop
noncomputable def jz(X:Cx)(pins:List (Addr×Obj))(H:Hp)(b:Addr):Prop :=
 H b=none/\b≠X.env.locals/\b∉X.fs/\(b∈X.ex∨X.s₀.heap.objs.size<=b)/\(∀x c,X.env.cells.lookup x=some c->c≠b)/\∀p∈X.pn++pins,p.1≠b
theorem Inv.fpOk{X:Cx}{pins:List (Addr×Obj)}{σ:St}{H H':Hp}{s:Shared}{b:Addr}(I:Inv X pins σ H s)(hb:s.heap.objs.size<=b)(hn:H' b=none):jz X pins H' b:=by
 refine⟨hn,Nat.ne_of_gt (Yb I.lt hb),I.nofs hb,.inr (Vb I.sz hb),fun x c e z=>?_,fun p hp z=>?_⟩
 ·obtain⟨v,q⟩:=I.cell x c e;exact absurd (Yb q.lt (by rw[z];exact hb)) (Qe _)
 ·exact absurd (Yb (Heap.lt_size (I.pin p hp).1) (by rw[z];exact hb)) (Qe _)
structure Turn(P:Program)(w:World)(K:PySem.W.Frag)(tg:Expr)(J:It)(fp:List Addr)(it:Addr)(tn:Nat->Heap->Prop):Prop where
 mem:it∈fp
 obj:∀i h,tn i h->∀b∈fp,∃o,h.get? b=some o/\∀v,o.data≠.cell v
 keep:∀i h h',tn i h->(∀b∈fp,∀o,h.get? b=some o->h'.get? b=some o)->tn i h'
 item:∀(X:Cx),X.prog=P->X.w=w->X.K=K->X.calm=true->∀(i:Nat)(pins:List (Addr×Obj))(s:Shared)(σ:St)(H:Hp)(E:Value->Shared->Prop),Inv X pins σ H s->(∀b∈fp,jz X pins H b)->tn i s.heap->J.go i H ->
  wpAny (model P w) X.A (pyNext (.ref it)) (fun r s1=>∃u,r=some u /\
   wpAny (model P w) X.A (letOwnedTupleGo tg (.ref it) u) (fun _ s2=>∃x H',Inv X pins σ H' s2/\RelV x u/\J.yld i H x H'/\tn (i+1) s2.heap/\∀b∈fp,H' b=none) E s1) E s
 done:∀(X:Cx),X.prog=P->X.w=w->X.K=K->X.calm=true->∀(i:Nat)(pins:List (Addr×Obj))(s:Shared)(σ:St)(H:Hp)(E:Value->Shared->Prop),Inv X pins σ H s->(∀b∈fp,jz X pins H b)->tn i s.heap->J.stop i H ->
  wpAny (model P w) X.A (pyNext (.ref it)) (fun r s1=>r=none/\Inv X pins σ H s1) E s
 self:∀(A:Around)(i:Nat)(s:Shared)(Q:Value->Shared->Prop)(E:Value->Shared->Prop),tn i s.heap->Q (.ref it) s->wpAny (model P w) A (pyIter (.ref it)) Q E s
noncomputable abbrev TI:=St->Hp->(It->Hp->Prop)->Prop
inductive PIE(X:Cx)(pins:List (Addr×Obj))(σ:St)(tg:Expr)(R:It->Hp->Prop)(itv:Value)(s2:Shared):Prop
 | mk (it:Addr) (fp:List Addr) (tn:Nat->Heap->Prop) (J:It) (H':Hp) (e:itv=.ref it) (I:Inv X pins σ H' s2) (T:Turn X.prog X.w X.K tg J fp it tn) (t0:tn 0 s2.heap) (fo:∀b∈fp,jz X pins H' b) (r:R J H')
noncomputable def PI(X:Cx)(tg iter:Expr)(wi:TI):Prop :=
 ∀(pins:List (Addr×Obj))(s:Shared)(σ:St)(H:Hp)(R:It->Hp->Prop),Inv X pins σ H s->wi σ H R ->
  wpAny (model X.prog X.w) X.A (eval iter X.env) (fun v s1=>wpAny (model X.prog X.w) X.A (pyIter v) (PIE X pins σ tg R) X.xe s1) X.xe s
theorem jK{M : Model}{A : Around}{E : Value → Shared → Prop}{s : Shared}{tg : Expr}{it : Addr}{u : Value}{o : Obj}{n : String}{vs : Array Value}{Q : Unit → Shared → Prop}(ho : s.heap.get? it = some o)(hc : o.cls = .type n)(hd : o.data = .fields vs)
    (hn : ["enumerate", "zip", "dict_itemiterator", "dict_reverseitemiterator", "odict_iterator", "itertools.zip_longest", "itertools.pairwise"].contains n = false)(hQ : Q () s) : wpAny M A (letOwnedTupleGo tg (.ref it) u) Q E s := by
  unfold letOwnedTupleGo;cases tg <;> first
    | exact wpAny_pure hQ
    | (cases u <;> first
        | exact wpAny_pure hQ
        | (refine wpAny_bind (wpAny_load ho ?_)
           rw [hc, hd];show wpAny M A (if (["enumerate", "zip", "dict_itemiterator", "dict_reverseitemiterator", "odict_iterator", "itertools.zip_longest", "itertools.pairwise"].contains n && vs[0]? == some (rawInt _)) = true then _ else _) Q E s;rw [if_neg (by intro h; rw [hn, Bool.false_and] at h; cases h)]
           exact wpAny_pure hQ))
noncomputable def Itl(K:PySem.W.Frag)(a:Addr):It :=
 ⟨fun i H=>∃xs x,SqL K H a xs/\xs[i]?=some x,fun i H x H'=>H'=H/\∀xs,SqL K H a xs->xs[i]?=some x,fun i H=>∃xs,SqL K H a xs/\xs.length<=i⟩
noncomputable def Itt(K:PySem.W.Frag)(a:Addr):It :=
 ⟨fun i H=>∃xs x,SqT K H a xs/\xs[i]?=some x,fun i H x H'=>H'=H/\∀xs,SqT K H a xs->xs[i]?=some x,fun i H=>∃xs,SqT K H a xs/\xs.length<=i⟩
noncomputable def Itr(lo:Int)(n:Nat):It:=⟨fun i _=>i<n,fun i H x H'=>H'=H/\x=.int (lo+i),fun i _=>n<=i⟩
theorem oJ{P:Program}{w:World}{K:PySem.W.Frag}{tg:Expr}(a it:Addr):Turn P w K tg (Itl K a) [it] it (fun i h=>h.IsListIter it a i) where
 mem:=by simp
 obj:=fun i h st b hb=>by
  have e:b=it:=by simpa using hb
  subst e;obtain⟨o,e,c,d⟩:=st;exact⟨o,e,fun v z=>by rw[d]at z;cases z⟩
 keep:=fun i h h' st k=>st.at fun o e=>k it (by simp) o e
 item:=by
  intro X hP hw hK hc i pins s σ H E I hf st hg;subst hP hw hK;obtain⟨xs,x,hq,hx⟩:=hg;obtain⟨its,rv,p,hz⟩:=I.list hq;obtain⟨u,hu,ru⟩:=rv.get hx;obtain⟨f0,f1,f2,f3,f4,f5⟩:=hf it (by simp)
  refine wpAny_pyNext_list_item st p.isList (x:=u) (by simpa using hu) fun h' st' sb=>?_
  have I1:Inv X pins σ H { s with heap:=h' }:=I.turned (t':=s.toks) (fun b o hb e=>(sb.2 b hb).trans e) f0 f1 f3 f4 f5;obtain⟨o,e,c,d⟩:=id st';exact⟨u,rfl,jK (s:={ s with heap:=h' }) e c d (by decide) ⟨x,H,I1,ru,⟨rfl,fun ys hy=>by rw[I.list_inj hy hq];exact hx⟩,st',fun b hb=>(hf b hb).1⟩⟩
 done:=by
  intro X hP hw hK hc i pins s σ H E I hf st hg;subst hP hw hK;obtain⟨xs,hq,hx⟩:=hg;obtain⟨its,rv,p,hz⟩:=I.list hq;obtain⟨f0,f1,f2,f3,f4,f5⟩:=hf it (by simp)
  have hl:=rv.length;exact wpAny_pyNext_list_end (I.ok.hd hc) st p.isList (by simp;lia) fun h' eb=>⟨rfl,I.turned (t':=s.toks) (fun b o hb e=>eb b o hb e) f0 f1 f3 f4 f5⟩
 self:=fun _ _ _ _ _ st h=>wpAny_pyIter_listiter st h
theorem ml{P:Program}{w:World}{K:PySem.W.Frag}{tg:Expr}(a it:Addr):Turn P w K tg (Itt K a) [it] it (fun i h=>h.IsTupleIter it a i) where
 mem:=by simp
 obj:=fun i h st b hb=>by
  have e:b=it:=by simpa using hb
  subst e;obtain⟨o,e,c,d⟩:=st;exact⟨o,e,fun v z=>by rw[d]at z;cases z⟩
 keep:=fun i h h' st k=>st.at fun o e=>k it (by simp) o e
 item:=by
  intro X hP hw hK hc i pins s σ H E I hf st hg;subst hP hw hK;obtain⟨xs,x,hq,hx⟩:=hg;obtain⟨its,rv,p,hz⟩:=I.tuple hq;obtain⟨u,hu,ru⟩:=rv.get hx;obtain⟨f0,f1,f2,f3,f4,f5⟩:=hf it (by simp)
  refine wpAny_pyNext_tuple_item st (show s.heap.IsTuple a its.toArray from p) (x:=u) (by simpa using hu) fun h' st' sb=>?_
  have I1:Inv X pins σ H { s with heap:=h' }:=I.turned (t':=s.toks) (fun b o hb e=>(sb.2 b hb).trans e) f0 f1 f3 f4 f5;obtain⟨o,e,c,d⟩:=id st';exact⟨u,rfl,jK (s:={ s with heap:=h' }) e c d (by decide) ⟨x,H,I1,ru,⟨rfl,fun ys hy=>by rw[I.tuple_inj hy hq];exact hx⟩,st',fun b hb=>(hf b hb).1⟩⟩
 done:=by
  intro X hP hw hK hc i pins s σ H E I hf st hg;subst hP hw hK;obtain⟨xs,hq,hx⟩:=hg;obtain⟨its,rv,p,hz⟩:=I.tuple hq;obtain⟨f0,f1,f2,f3,f4,f5⟩:=hf it (by simp)
  have hl:=rv.length;exact wpAny_pyNext_tuple_end (I.ok.hd hc) st (show s.heap.IsTuple a its.toArray from p) (by simp;lia) fun h' eb=>⟨rfl,I.turned (t':=s.toks) (fun b o hb e=>eb b o hb e) f0 f1 f3 f4 f5⟩
 self:=fun _ _ _ _ _ st h=>wpAny_pyIter_tupleiter st h
theorem mn{P:Program}{w:World}{K:PySem.W.Frag}{tg:Expr}(it:Addr)(lo:Int)(n:Nat):Turn P w K tg (Itr lo n) [it] it (fun i h=>IsRangeIter h it (lo+(i:Nat)*1) ((n:Int)-(i:Nat)) 1) where
 mem:=by simp
 obj:=fun i h st b hb=>by
  have e:b=it:=by simpa using hb
  subst e
  exact⟨_,st,fun v z=>by
   have z':Data.fields _=Data.cell v:=z
   cases z'⟩
 keep:=fun i h h' st k=>k it (by simp) _ st
 item:=by
  intro X hP hw hK hc i pins s σ H E I hf st hg;subst hP hw hK;obtain⟨f0,f1,f2,f3,f4,f5⟩:=hf it (by simp)
  have W:=Walks.range (prog:=X.prog) (w:=X.w) (I.ok.hd hc) it lo 1 n;refine W.item i s _ _ hg st fun v h' tk hv st' kk=>?_;obtain⟨t,rfl⟩:=hv;have I1:Inv X pins σ H { s with heap:=h',toks:=tk }:=I.turned (fun b o hb e=>kk b o (by simpa using hb) e) f0 f1 f3 f4 f5
  refine⟨_,rfl,jK (s:={ s with heap:=h',toks:=tk }) (n:="range_iterator") st' rfl rfl (by decide) ⟨.int (lo+i),H,I1,⟨t,?_⟩,⟨rfl,rfl⟩,st',fun b hb=>(hf b hb).1⟩⟩
  rw[Int.mul_one]
 done:=by
  intro X hP hw hK hc i pins s σ H E I hf st hg;subst hP hw hK;obtain⟨f0,f1,f2,f3,f4,f5⟩:=hf it (by simp)
  exact wpAny_pyNext_range_end (I.ok.hd hc) st (by have:n<=i:=hg;lia) fun h' eb=>⟨rfl,I.turned (t':=s.toks) (fun b o hb e=>eb b o hb e) f0 f1 f3 f4 f5⟩
 self:=fun _ _ _ _ _ st h=>wpAny_pyIter_rangeiter st h
end L2
namespace L2
open PySem PySem.Spec PyProof.Rows
section
variable {X:Cx}{tg:Expr}
noncomputable def nB(K:PySem.W.Frag)(tl:TE):TI:=fun σ H R=>tl σ H fun x H1=>∃a,x=.ref a/\(∃xs,SqL K H1 a xs)/\R (Itl K a) H1
noncomputable def uZ(K:PySem.W.Frag)(tl:TE):TI:=fun σ H R=>tl σ H fun x H1=>∃a,x=.ref a/\(∃xs,SqT K H1 a xs)/\R (Itt K a) H1
theorem rV{l:Expr}{tl:TE}(hl:PE X l tl):PI X tg l (nB X.K tl):=by
 intro pins s σ H R I h;refine thn (hl pins s σ H _ I h) fun v s1 zz9=>?_;obtain⟨x,H1,I1,r1,q1⟩:=zz9;obtain⟨a,e,⟨xs,hq⟩,q⟩:=q1;subst e;cases r1;obtain⟨its,rv,p,hz⟩:=I1.list hq;refine wpAny_pyIter_list p.isList ?_;refine⟨s1.heap.objs.size,[s1.heap.objs.size],_,_,H1,rfl,I1.kept (t':=s1.toks) fun b o e=>Heap.get?_push_of_some _ e,oJ a _,⟨_,Heap.get?_push_size _ rfl,rfl,rfl⟩,fun b hb=>?_,q⟩;have e:b=s1.heap.objs.size:=by simpa using hb
 subst e;exact I1.fpOk (Xa _) (I1.hok.fresh (Xa _))
theorem u0{l:Expr}{tl:TE}(hl:PE X l tl):PI X tg l (uZ X.K tl):=by
 intro pins s σ H R I h;refine thn (hl pins s σ H _ I h) fun v s1 zz9=>?_;obtain⟨x,H1,I1,r1,q1⟩:=zz9;obtain⟨a,e,⟨xs,hq⟩,q⟩:=q1;subst e;cases r1;obtain⟨its,rv,p,hz⟩:=I1.tuple hq;refine wpAny_pyIter_tuple (show s1.heap.IsTuple a its.toArray from p) ?_;refine⟨s1.heap.objs.size,[s1.heap.objs.size],_,_,H1,rfl,I1.kept (t':=s1.toks) fun b o e=>Heap.get?_push_of_some _ e,ml a _,⟨_,Heap.get?_push_size _ rfl,rfl,rfl⟩,fun b hb=>?_,q⟩;have e:b=s1.heap.objs.size:=by simpa using hb
 subst e;exact I1.fpOk (Xa _) (I1.hok.fresh (Xa _))
theorem pJ{pins:List (Addr×Obj)}{σ:St}{H:Hp}{s:Shared}{R:It->Hp->Prop}{E:Value->Shared->Prop}{lo hi:Int}{t u v:Tok}{tk:Nat}(I:Inv X pins σ H s)(h1:-(2 ^ 62)<=lo)(h2:lo<2 ^ 62)(h3:-(2 ^ 62)<=hi)(h4:hi<2 ^ 62)
  (q:R (Itr lo (hi-lo).toNat) H):wpAny (model X.prog X.w) X.A (pyIter (.ref s.heap.objs.size)) (PIE X pins σ tg R) E { s with heap:=s.heap.push { cls:=.type "range",data:=.fields #[.int lo t,.int hi u,.int 1 v] },toks:=tk }:=by
 refine wpAny_pyIter_range (IsRange.new ..) (small_one h1 h2 h3 h4) ?_;have I1:Inv X pins σ H { s with heap:=s.heap.push { cls:=.type "range",data:=.fields #[.int lo t,.int hi u,.int 1 v] },toks:=tk }:=I.kept fun b o e=>Heap.get?_push_of_some _ e
 refine⟨(s.heap.push { cls:=.type "range",data:=.fields #[.int lo t,.int hi u,.int 1 v] }).objs.size,[(s.heap.push { cls:=.type "range",data:=.fields #[.int lo t,.int hi u,.int 1 v] }).objs.size],_,_,H,rfl,
  I1.kept (t':=tk) fun b o e=>Heap.get?_push_of_some _ e,mn _ lo (hi-lo).toNat,?_,fun b hb=>?_,q⟩
 ·have e1:lo+((0:Nat):Int)*1=lo:=by simp
  have e2:(((hi-lo).toNat:Nat):Int)-((0:Nat):Int)=Builtin.Range.rangeSize lo hi 1:=by rw[rangeSize_one];split<;>lia
  show IsRangeIter _ _ (lo+((0:Nat):Int)*1) ((((hi-lo).toNat:Nat):Int)-((0:Nat):Int)) 1;rw[e1,e2];exact Heap.get?_push_size _ rfl
 ·have e:b=(s.heap.push { cls:=.type "range",data:=.fields #[.int lo t,.int hi u,.int 1 v] }).objs.size:=by simpa using hb
  subst e;exact I1.fpOk (Xa _) (I1.hok.fresh (Xa _))
noncomputable def ub(ta:TA):TI:=fun σ H R=>ta σ H fun vs H1=>∃j:Int,vs=[.int j]/\-(2 ^ 62)<=j/\j<2 ^ 62/\R (Itr 0 j.toNat) H1
theorem dC{a:Expr}{ta:TA}{p pos:Pos}(hg:Gl X "range")(hm:X.mg "range"=none)(ha:PA X [a] ta)(hs:starEach [a] X.env=[(false,eval a X.env)]:=by rfl):PI X tg (.Call (.Name "range" p) [a] [] pos) (ub ta):=by
 intro pins s σ H R I h;refine Call_ (iX I hg hm boot_range (PyProof.Rows.callWith_type1 (thn (ha pos pins s σ H _ I h) fun us s1 zz9=>?_) hs rfl));obtain⟨vs,H1,I1,r1,q1⟩:=zz9;obtain⟨j,e,q1,q2,q⟩:=q1;subst e;cases r1 with
 | cons r rr =>
  cases rr;obtain⟨t,rfl⟩:=r;exact call_range_1 (pJ I1 (by lia) (by lia) q1 q2 (by simpa using q))
noncomputable def wy(wi:TI)(g:TG)(tb:TS):TS:=fun D σ H=>wi σ H fun J H1=>∃W:Nat->Nat->St->Hp->Prop,(∃m,W 0 m σ H1)/\∀i m σ H,W i m σ H ->
 (J.stop i H/\D.nx σ H)∨(J.go i H/\∃N:St->Hp->Prop,(∀σ' H',N σ' H'->∃m',m'<m/\W (i+1) m' σ' H')/\∀x H',J.yld i H x H'->g x σ H' fun σ2 H2=>tb { D with nx:=N,ct:=N,bk:=D.nx } σ2 H2)
noncomputable def iZ(fp:List Addr)(h:Heap):List (Addr×Obj):=fp.filterMap fun b=>(h.get? b).map fun o=>(b,o)
theorem dH{fp:List Addr}{h:Heap}{b:Addr}{o:Obj}(hb:b∈fp)(e:h.get? b=some o):(b,o)∈iZ fp h:=List.mem_filterMap.mpr ⟨b,hb,by rw[e];rfl⟩
theorem oK{fp:List Addr}{h:Heap}{p:Addr×Obj}(hp:p∈iZ fp h):p.1∈fp/\h.get? p.1=some p.2:=by
 obtain⟨b,hb,e⟩:=List.mem_filterMap.mp hp;cases q:h.get? b with
 | none=>rw[q]at e;cases e
 | some o =>
  rw[q]at e;have e':(b,o)=p:=Option.some.inj e;subst e';exact⟨hb,q⟩
theorem Inv.pinned{pins:List (Addr×Obj)}{σ:St}{H:Hp}{s:Shared}{fp:List Addr}(I:Inv X pins σ H s)(hf:∀b∈fp,jz X pins H b)(ho:∀b∈fp,∃o,s.heap.get? b=some o/\∀v,o.data≠.cell v):Inv X (pins++iZ fp s.heap) σ H s :=
 I.pins_of fun p hp=>(Qf.mp hp).elim (fun z=>I.pin p (Yc _ z)) fun z=>by
  obtain⟨hb,e⟩:=oK z;obtain⟨f0,f1,f2,_⟩:=hf p.1 hb;obtain⟨o,e',d⟩:=ho p.1 hb;rw[e]at e';cases e';exact⟨e,f0,f1,f2,d⟩
theorem Inv.unpinned{pins pl:List (Addr×Obj)}{σ:St}{H:Hp}{s:Shared}(I:Inv X (pins++pl) σ H s):Inv X pins σ H s:=I.pins_of fun p hp=>I.pin p (Yc _ (Xi _ hp))
theorem mo{iter:Expr}{body:List Stmt}{wi:TI}{g:TG}{tb:TS}{pos:Pos}(hp:PassesOwn (model X.prog X.w) X.A X.env X.xe)(hc:X.calm=true)(hi:PI X tg iter wi)(hg:PG X tg g)(hb:PSs X body tb)
  (hs:∀x,foldedSetIterable iter X.env x=pure x:=by intro _;rfl):PS X (.For tg iter body [] pos) (wy wi g tb):=by
 intro pins s σ H D I h;refine wpAny_For (thn (hi pins s σ H _ I h) fun v s1 h1=>thn h1 fun itv s2 h2=>?_) hs;obtain⟨it,fp,tn,J,H2,e,I2,T,st2,f2,W,⟨m0,w0⟩,turn⟩:=h2;subst e;have stat:∀{H':Hp},(∀b∈fp,H' b=none)->∀b∈fp,jz X pins H' b:=fun hn b hb=>⟨hn b hb,(f2 b hb).2⟩;refine codeAny_forLoop_any (fun n s'=>∃i σ' H',Inv X pins σ' H' s'/\tn i s'.heap/\(∀b∈fp,H' b=none)/\W i n σ' H') ?_ m0 ⟨0,σ,H2,I2,st2,fun b hb=>(f2 b hb).1,w0⟩;rintro n s3 ⟨i,σ3,H3,I3,st3,fr3,w3⟩;rcases turn i n σ3 H3 w3 with⟨stop,qn⟩|⟨go,N,hN,step⟩
 ·refine wpAny_passesOwn hp (thn (T.done X rfl rfl rfl hc i pins s3 σ3 H3 X.xe I3 (stat fr3) st3 stop) fun r s4 zz9=>?_);obtain⟨hr,I4⟩:=zz9;subst hr;exact wpAny_execs_nil ⟨σ3,H3,I4,qn⟩
 ·refine wpAny_passesOwn hp (thn (T.item X rfl rfl rfl hc i pins s3 σ3 H3 X.xe I3 (stat fr3) st3 go) fun r s4 zz9=>?_);obtain⟨u,hr,h4⟩:=zz9;subst hr;refine wpAny_passesOwn hp (thn h4 fun _ s5 zz9=>?_);obtain⟨x,H5,I5,r5,y5,st5,fr5⟩:=zz9;have I5':=I5.pinned (stat fr5) (T.obj _ _ st5);refine wpAny_passesOwn hp (thn (hg _ s5 σ3 H5 x u _ I5' r5 (step x H5 y5)) fun _ s6 zz9=>?_);obtain⟨σ6,H6,I6,q6⟩:=zz9;refine wpAny_passesOwn hp (thn (hb _ s6 σ6 H6 _ I6 q6) fun f s7 q7=>?_);have again:∀{σ7:St}{H7:Hp},Inv X (pins++iZ fp s5.heap) σ7 H7 s7->N σ7 H7->∃m,m<n/\∃i σ' H',Inv X pins σ' H' s7/\tn i s7.heap/\(∀b∈fp,H' b=none)/\W i m σ' H':=fun {σ7 H7} I7 n7=>by
   obtain⟨m',hm,w7⟩:=hN σ7 H7 n7;refine⟨m',hm,i+1,σ7,H7,I7.unpinned,T.keep _ _ _ st5 fun b hb o e=>(I7.pin (b,o) (Yc _ (Yc _ (dH hb e)))).1,fun b hb=>?_,w7⟩;obtain⟨o,e,d⟩:=T.obj _ _ st5 b hb;exact(I7.pin (b,o) (Yc _ (Yc _ (dH hb e)))).2.1
  cases f with
  | next=>obtain⟨σ7,H7,I7,n7⟩:=q7;exact again I7 n7
  | cont=>obtain⟨σ7,H7,I7,n7⟩:=q7;exact again I7 n7
  | brk=>obtain⟨σ7,H7,I7,q7⟩:=q7;exact⟨σ7,H7,I7.unpinned,q7⟩
  | ret v=>obtain⟨x7,σ7,H7,I7,r7,q7⟩:=q7;exact⟨x7,σ7,H7,I7.unpinned,r7,q7⟩
end
end L2
namespace L2
open PySem PySem.Spec PyProof.Rows
noncomputable abbrev R2:=V->V->Hp->VK->Prop
noncomputable def OpR(X:Cx)(f:Value->Value->Sem Value)(r:R2):Prop :=
 ∀(pins:List (Addr×Obj))(s:Shared)(σ:St)(H:Hp)(x y:V)(v u:Value)(Q:VK),Inv X pins σ H s->RelV x v->RelV y u->r x y H Q ->
  wpAny (model X.prog X.w) X.A (f v u) (EP X pins σ Q) X.xe s
noncomputable def UnR(X:Cx)(f:Value->Sem Value)(r:V->Hp->VK->Prop):Prop :=
 ∀(pins:List (Addr×Obj))(s:Shared)(σ:St)(H:Hp)(x:V)(v:Value)(Q:VK),Inv X pins σ H s->RelV x v->r x H Q ->
  wpAny (model X.prog X.w) X.A (f v) (EP X pins σ Q) X.xe s
noncomputable def CallR(X:Cx)(f:Value)(r:List V->Hp->VK->Prop):Prop :=
 ∀(pins:List (Addr×Obj))(s:Shared)(σ:St)(H:Hp)(xs:List V)(us:List Value)(Q:VK),Inv X pins σ H s->Vals xs us->r xs H Q ->
  wpAny (model X.prog X.w) X.A (call f us) (EP X pins σ Q) X.xe s
noncomputable def tOp(r:R2)(ta tb:TE):TE:=fun σ H Q=>ta σ H fun x H1=>tb σ H1 fun y H2=>r x y H2 Q
noncomputable def tUn(r:V->Hp->VK->Prop)(ta:TE):TE:=fun σ H Q=>ta σ H fun x H1=>r x H1 Q
noncomputable def rI(C:Int->Int->Prop)(g:Int->Int->V):R2:=fun x y H Q=>∃i j,x=.int i/\y=.int j/\C i j/\Q (g i j) H
noncomputable def rI0(g:Int->Int->V):R2:=fun x y H Q=>∃i j,x=.int i/\y=.int j/\Q (g i j) H
noncomputable def rU(g:Int->V):V->Hp->VK->Prop:=fun x H Q=>∃i,x=.int i/\Q (g i) H
section
variable {X:Cx}{a b c:Expr}{ta tb tc:TE}{pos:Pos}
theorem u1(ha:PE X a ta)(hb:PE X b tb){pins:List (Addr×Obj)}{s:Shared}{σ:St}{H:Hp}{R:V->V->Hp->Prop}(I:Inv X pins σ H s)
  (h:ta σ H fun x H1=>tb σ H1 fun y H2=>R x y H2){Q:Value->Shared->Prop}{f:Value->Value->Sem Value}
  (hf:∀v u s2 x y H2,Inv X pins σ H2 s2->RelV x v->RelV y u->R x y H2->wpAny (model X.prog X.w) X.A (f v u) Q X.xe s2) :
  wpAny (model X.prog X.w) X.A (eval a X.env) (fun v s₁=>wpAny (model X.prog X.w) X.A (eval b X.env) (fun u s₂=>wpAny (model X.prog X.w) X.A (f v u) Q X.xe s₂) X.xe s₁) X.xe s:=by
 refine thn (ha pins s σ H _ I h) fun v s1 zz9=>?_;obtain⟨x,H1,I1,r1,q1⟩:=zz9;refine thn (hb pins s1 σ H1 _ I1 q1) fun u s2 zz9=>?_;obtain⟨y,H2,I2,r2,q2⟩:=zz9;exact hf v u s2 x y H2 I2 r1 r2 q2
theorem az{op:Operator}{r:R2}(ho:OpR X (binaryOp op) r)(ha:PE X a ta)(hb:PE X b tb):PE X (.BinOp a op b pos) (tOp r ta tb):=by
 intro pins s σ H Q I h;exact wpAny_BinOp (u1 ha hb I h fun v u s2 x y H2 I2 rx ry q=>ho pins s2 σ H2 x y v u Q I2 rx ry q)
theorem wz{op:UnaryOp}{r:V->Hp->VK->Prop}(ho:UnR X (unaryOp op) r)(ha:PE X a ta):PE X (.UnaryOp op a pos) (tUn r ta):=by
 intro pins s σ H Q I h;exact UnaryOp_ (thn (ha pins s σ H _ I h) fun v s1 ⟨x,H1,I1,r1,q1⟩=>ho pins s1 σ H1 x v Q I1 r1 q1)
theorem opI{f:Value->Value->Sem Value}{C:Int->Int->Prop}{g:Int->Int->Int}
  (rule:∀(i j:Int)(t u:Tok)(s:Shared)(Q:Value->Shared->Prop)(E:Value->Shared->Prop),C i j->Q (.int (g i j) s.toks) { s with toks:=s.toks+1 }->wpAny (model X.prog X.w) X.A (f (.int i t) (.int j u)) Q E s) :
  OpR X f (rI C fun i j=>.int (g i j)):=by
 intro pins s σ H x y v u Q I rx ry h;obtain⟨i,j,rfl,rfl,hc,q⟩:=h;obtain⟨t,rfl⟩:=rx;obtain⟨t',rfl⟩:=ry;exact rule i j t t' s _ _ hc ⟨.int (g i j),H,I.tok _,⟨_,rfl⟩,q⟩
theorem wA{f:Value->Value->Sem Value}{g:Int->Int->Int}
  (rule:∀(i j:Int)(t u:Tok)(s:Shared)(Q:Value->Shared->Prop)(E:Value->Shared->Prop),Q (.int (g i j) s.toks) { s with toks:=s.toks+1 }->wpAny (model X.prog X.w) X.A (f (.int i t) (.int j u)) Q E s) :
  OpR X f (rI0 fun i j=>.int (g i j)):=by
 intro pins s σ H x y v u Q I rx ry h;obtain⟨i,j,rfl,rfl,q⟩:=h;obtain⟨t,rfl⟩:=rx;obtain⟨t',rfl⟩:=ry;exact rule i j t t' s _ _ ⟨.int (g i j),H,I.tok _,⟨_,rfl⟩,q⟩
theorem rW{f:Value->Value->Sem Value}{g:Int->Int->Bool}
  (rule:∀(i j:Int)(t u:Tok)(s:Shared)(Q:Value->Shared->Prop)(E:Value->Shared->Prop),Q (.bool (g i j)) s->wpAny (model X.prog X.w) X.A (f (.int i t) (.int j u)) Q E s) :
  OpR X f (rI0 fun i j=>.bl (g i j)):=by
 intro pins s σ H x y v u Q I rx ry h;obtain⟨i,j,rfl,rfl,q⟩:=h;obtain⟨t,rfl⟩:=rx;obtain⟨t',rfl⟩:=ry;exact rule i j t t' s _ _ ⟨.bl (g i j),H,I,rfl,q⟩
noncomputable def mq(i j:Int):Prop:=0<j/\j<1073741824
noncomputable def pK(i j:Int):Prop:=0<=j/\j<=1000000/\i.natAbs<2 ^ 64
noncomputable def CMul(i j:Int):Prop:=(-(2 ^ 64)<i/\i<2 ^ 64)∨(-(2 ^ 64)<j/\j<2 ^ 64)
theorem CMul.ok{i j:Int}(h:CMul i j):IntMulOk i j:=by
 rcases h with⟨h1,h2⟩|⟨h1,h2⟩
 ·exact .of_left (intBits_le_64 h1 h2)
 ·exact .of_right (intBits_le_64 h1 h2)
theorem op_add:OpR X (binaryOp .Add) (rI0 fun i j=>.int (i+j)):=wA fun _ _ _ _ _ _ _ q=>add_int q
theorem dI:OpR X (binaryOp .Sub) (rI0 fun i j=>.int (i-j)):=wA fun _ _ _ _ _ _ _ q=>sub_int q
theorem op_mul:OpR X (binaryOp .Mult) (rI CMul fun i j=>.int (i*j)):=opI fun _ _ _ _ _ _ _ hc q=>mul_int q hc.ok
theorem iM:OpR X (binaryOp .FloorDiv) (rI mq fun i j=>.int (i / j)):=opI fun i j _ _ _ _ _ hc q=>by
 have h1:(0:Int)<j:=hc.1;have h2:j<1073741824:=hc.2;exact floordiv_int (by lia) (by rw[Int.fdiv_eq_ediv_of_nonneg i (by lia)];exact q) (.inl (PyProof.noPylong_small (by lia)))
theorem d7:OpR X (binaryOp .Mod) (rI (fun _ j=>0<j) fun i j=>.int (i % j)):=opI fun i j _ _ _ _ _ hc q=>by
 have h1:(0:Int)<j:=hc;exact mod_int' (by lia) (by rw[Int.fmod_eq_emod_of_nonneg i (by lia)];exact q)
theorem pL:OpR X (binaryOp .Pow) (rI pK fun i j=>.int (i ^ j.toNat)):=opI fun _ _ _ _ _ _ _ hc q=>pow_int_small hc.1 hc.2.1 hc.2.2 q
theorem unI{f:Value->Sem Value}{g:Int->Int}
  (rule:∀(i:Int)(t:Tok)(s:Shared)(Q:Value->Shared->Prop)(E:Value->Shared->Prop),Q (.int (g i) s.toks) { s with toks:=s.toks+1 }->wpAny (model X.prog X.w) X.A (f (.int i t)) Q E s) :
  UnR X f (rU fun i=>.int (g i)):=by
 intro pins s σ H x v Q I rx h;obtain⟨i,rfl,q⟩:=h;obtain⟨t,rfl⟩:=rx;exact rule i t s _ _ ⟨.int (g i),H,I.tok _,⟨_,rfl⟩,q⟩
theorem u2:UnR X (unaryOp .USub) (rU fun i=>.int (-i)):=unI fun _ _ _ _ _ q=>neg_int q
end
noncomputable def u3:V->V->Bool
 | .non,.non=>true|.non,.int _=>true|.int _,.non=>true|.non,.bl _=>true|.bl _,.non=>true|.non,.str _=>true|.str _,.non=>true
 | .int _,.int _=>true|.bl _,.bl _=>true|.str _,.str _=>true|.byt _,.byt _=>true
 | .int _,.str _=>true|.str _,.int _=>true|.bl _,.str _=>true|.str _,.bl _=>true
 | _,_=>false
noncomputable def rEq:R2:=fun x y H Q=>u3 x y=true/\Q (.bl (decide (x=y))) H
noncomputable def rNe:R2:=fun x y H Q=>u3 x y=true/\Q (.bl (!decide (x=y))) H
theorem nC{i j:Int}:decide (V.int i=V.int j)=(i == j):=by
 rw[Yk];simp
theorem pM{i j:Bool}:decide (V.bl i=V.bl j)=(i == j):=by
 rw[Yk];simp
theorem nF{i j:Str}:decide (V.str i=V.str j)=(i == j):=by
 rw[Yk];simp
theorem nG{i j:Array UInt8}:decide (V.byt i=V.byt j)=(i.toList == j.toList):=by
 rw[Yk];cases i;cases j;simp
section
variable {X:Cx}{a b c:Expr}{ta tb tc:TE}{pos:Pos}
theorem aT{pins:List (Addr×Obj)}{σ:St}{H:Hp}{s:Shared}{Q:VK}{k k':Bool}(I:Inv X pins σ H s)(q:Q (.bl k) H)(e:k=k'):EP X pins σ Q (.bool k') s:=by
 subst e;exact⟨.bl k,H,I,rfl,q⟩
theorem wB:OpR X (compareOp .Eq) rEq:=by
 intro pins s σ H x y v u Q I rx ry h;obtain⟨hs,q⟩:=h;cases x with
 | non =>
  cases rx;cases y with
  | non=>cases ry;exact PySem.EqNone.eq_none_none (aT I q (by simp))
  | bl j=>cases ry;exact PySem.EqNone.eq_none_bool (aT I q (by simp))
  | int j=>obtain⟨t',rfl⟩:=ry;exact PySem.EqNone.eq_none_int (aT I q (by simp))
  | str j=>obtain⟨t',rfl⟩:=ry;exact PySem.EqNone.eq_none_str (aT I q (by simp))
  | _=>exact absurd (show false=true from hs) Qa
 | bl i =>
  cases rx;cases y with
  | non=>cases ry;exact PySem.EqNone.eq_bool_none (aT I q (by simp))
  | bl j=>cases ry;exact eq_bool (aT I q pM)
  | str j=>obtain⟨t',rfl⟩:=ry;exact PySem.EqMixed.eq_bool_str (aT I q (by simp))
  | _=>exact absurd (show false=true from hs) Qa
 | int i =>
  obtain⟨t,rfl⟩:=rx;cases y with
  | non=>cases ry;exact PySem.EqNone.eq_int_none (aT I q (by simp))
  | int j=>obtain⟨t',rfl⟩:=ry;exact eq_int (aT I q nC)
  | str j=>obtain⟨t',rfl⟩:=ry;exact PySem.EqMixed.eq_int_str (aT I q (by simp))
  | _=>exact absurd (show false=true from hs) Qa
 | str i =>
  obtain⟨t,rfl⟩:=rx;cases y with
  | non=>cases ry;exact PySem.EqNone.eq_str_none (aT I q (by simp))
  | bl j=>cases ry;exact PySem.EqMixed.eq_str_bool (aT I q (by simp))
  | int j=>obtain⟨t',rfl⟩:=ry;exact PySem.EqMixed.eq_str_int (aT I q (by simp))
  | str j=>obtain⟨t',rfl⟩:=ry;exact eq_str (aT I q nF)
  | _=>exact absurd (show false=true from hs) Qa
 | byt i =>
  obtain⟨t,rfl⟩:=rx;cases y with
  | byt j=>obtain⟨t',rfl⟩:=ry;exact PySem.W.eq_bytes (aT I q nG)
  | _=>exact absurd (show false=true from hs) Qa
 | _=>cases y<;>exact absurd (show false=true from hs) Qa
theorem op_ne:OpR X (compareOp .NotEq) rNe:=by
 intro pins s σ H x y v u Q I rx ry h;obtain⟨hs,q⟩:=h;cases x with
 | non =>
  cases rx;cases y with
  | non=>cases ry;exact PySem.EqNone.ne_none_none (aT I q (by simp))
  | bl j=>cases ry;exact PySem.EqNone.ne_none_bool (aT I q (by simp))
  | int j=>obtain⟨t',rfl⟩:=ry;exact PySem.EqNone.ne_none_int (aT I q (by simp))
  | str j=>obtain⟨t',rfl⟩:=ry;exact PySem.EqNone.ne_none_str (aT I q (by simp))
  | _=>exact absurd (show false=true from hs) Qa
 | bl i =>
  cases rx;cases y with
  | non=>cases ry;exact PySem.EqNone.ne_bool_none (aT I q (by simp))
  | bl j=>cases ry;exact ne_bool (aT I q (congrArg not pM))
  | str j=>obtain⟨t',rfl⟩:=ry;exact PySem.EqMixed.ne_bool_str (aT I q (by simp))
  | _=>exact absurd (show false=true from hs) Qa
 | int i =>
  obtain⟨t,rfl⟩:=rx;cases y with
  | non=>cases ry;exact PySem.EqNone.ne_int_none (aT I q (by simp))
  | int j=>obtain⟨t',rfl⟩:=ry;exact ne_int (aT I q (congrArg not nC))
  | str j=>obtain⟨t',rfl⟩:=ry;exact PySem.EqMixed.ne_int_str (aT I q (by simp))
  | _=>exact absurd (show false=true from hs) Qa
 | str i =>
  obtain⟨t,rfl⟩:=rx;cases y with
  | non=>cases ry;exact PySem.EqNone.ne_str_none (aT I q (by simp))
  | bl j=>cases ry;exact PySem.EqMixed.ne_str_bool (aT I q (by simp))
  | int j=>obtain⟨t',rfl⟩:=ry;exact PySem.EqMixed.ne_str_int (aT I q (by simp))
  | str j=>obtain⟨t',rfl⟩:=ry;exact ne_str (aT I q (congrArg not nF))
  | _=>exact absurd (show false=true from hs) Qa
 | byt i =>
  obtain⟨t,rfl⟩:=rx;cases y with
  | byt j=>obtain⟨t',rfl⟩:=ry;exact PySem.W.ne_bytes (aT I q (congrArg not nG))
  | _=>exact absurd (show false=true from hs) Qa
 | _=>cases y<;>exact absurd (show false=true from hs) Qa
theorem op_lt:OpR X (compareOp .Lt) (rI0 fun i j=>.bl (decide (i<j))):=rW fun _ _ _ _ _ _ _ q=>lt_int q
theorem fQ:OpR X (compareOp .LtE) (rI0 fun i j=>.bl (decide (i<=j))):=rW fun _ _ _ _ _ _ _ q=>le_int q
theorem wC:OpR X (compareOp .Gt) (rI0 fun i j=>.bl (decide (j<i))):=rW fun _ _ _ _ _ _ _ q=>gt_int q
theorem wD:OpR X (compareOp .GtE) (rI0 fun i j=>.bl (decide (j<=i))):=rW fun _ _ _ _ _ _ _ q=>ge_int q
theorem oM:OpR X (compareOp .Lt) (fun x y H Q=>∃i j,x=.str i/\y=.str j/\Q (.bl (decide (i.cps.toList<j.cps.toList))) H):=by
 intro pins s σ H x y v u Q I rx ry h;obtain⟨i,j,rfl,rfl,q⟩:=h;obtain⟨t,rfl⟩:=rx;obtain⟨t',rfl⟩:=ry;exact lt_str (aT I q rfl)
theorem op_in_str:OpR X (compareOp .In) (fun x y H Q=>∃i j,x=.str i/\y=.str j/\Q (.bl (!(Builtin.Str.occurrences j i 0 j.length 1).isEmpty)) H):=by
 intro pins s σ H x y v u Q I rx ry h;obtain⟨i,j,rfl,rfl,q⟩:=h;obtain⟨t,rfl⟩:=rx;obtain⟨t',rfl⟩:=ry;exact in_str (aT I q rfl)
theorem ms:OpR X (compareOp .Is) (fun x y H Q=>y=.non/\Q (.bl (decide (x=.non))) H):=by
 intro pins s σ H x y v u Q I rx ry h;obtain⟨rfl,q⟩:=h;cases ry;refine is_none_gen (aT I q ?_);cases x<;>first
  | (cases rx;rfl)
  | (obtain⟨t,rfl⟩:=rx;rfl)
theorem OpR.or{f:Value->Value->Sem Value}{r r':R2}(h:OpR X f r)(h':OpR X f r'):OpR X f (fun x y H Q=>r x y H Q∨r' x y H Q):=by
 intro pins s σ H x y v u Q I rx ry q;rcases q with q|q
 ·exact h pins s σ H x y v u Q I rx ry q
 ·exact h' pins s σ H x y v u Q I rx ry q
theorem bm(b:Expr){op:CmpOp}(h:op≠.In:=by decide)(h2:op≠.NotIn:=by decide):behindInMarks op b=false:=by
 have e1:(op == CmpOp.In)=false:=by cases op<;>first|rfl|exact absurd rfl h
 have e2:(op == CmpOp.NotIn)=false:=by cases op<;>first|rfl|exact absurd rfl h2
 cases b<;>simp[behindInMarks,e1,e2]
theorem fz{op:CmpOp}{r:R2}(ho:OpR X (compareOp op) r)(ha:PE X a ta)(hb:PE X b tb)(hm:behindInMarks op b=false):PE X (.Compare a [op] [b] pos) (tOp r ta tb):=by
 intro pins s σ H Q I h;exact wpAny_Compare1 (u1 ha hb I h fun v u s2 x y H2 I2 rx ry q=>ho pins s2 σ H2 x y v u Q I2 rx ry q) hm
noncomputable def pN(t:TE):TT:=fun σ H Q=>t σ H fun x H'=>∃k,x=.bl k/\Q k H'
theorem bj{op:CmpOp}{r:R2}(ho:OpR X (compareOp op) r)(ha:PE X a ta)(hb:PE X b tb)(hm:behindInMarks op b=false):PT X (.Compare a [op] [b] pos) (pN (tOp r ta tb)):=by
 intro pins s σ H Q I h
 refine wpAny_isTrue_Compare1 (thn (ha pins s σ H _ I h) fun v s1 ⟨x,H1,I1,r1,q1⟩=>thn (hb pins s1 σ H1 _ I1 q1) fun u s2 ⟨y,H2,I2,r2,q2⟩ =>
  thn (ho pins s2 σ H2 x y v u _ I2 r1 r2 q2) fun c s3 ⟨z,H3,I3,r3,k,e,q3⟩=>?_) hm
 subst e;cases r3;exact wpAny_truthy_bool ⟨H3,I3,q3⟩
theorem gU:(sizeLine:Nat)<2 ^ 63:=by rw[sizeLine_eq];decide
theorem op_add_str:OpR X (binaryOp .Add) (fun x y H Q=>∃i j,x=.str i/\y=.str j/\i.length+j.length<=sizeLine/\Q (.str (i++j)) H):=by
 intro pins s σ H x y v u Q I rx ry h;obtain⟨i,j,rfl,rfl,hz,q⟩:=h;obtain⟨t,rfl⟩:=rx;obtain⟨t',rfl⟩:=ry;exact add_str (fun t' tk=>⟨.str (i++j),H,I.tok _,⟨_,rfl⟩,q⟩) hz
theorem vals1{x:V}{us:List Value}(r:Vals [x] us):∃u,us=[u]/\RelV x u:=by
 cases r with
 | cons r1 r2=>cases r2;exact⟨_,rfl,r1⟩
theorem vals2{x y:V}{us:List Value}(r:Vals [x,y] us):∃u w',us=[u,w']/\RelV x u/\RelV y w':=by
 cases r with
 | cons r1 r2 =>
  cases r2 with
  | cons r3 r4=>cases r4;exact⟨_,_,rfl,r1,r3⟩
end
end L2
namespace L2
open PySem PySem.Spec PyProof.Rows
structure ObjM(h:Heap)(x dx C:Addr)(mA:Str->Option Value):Prop where
 obj:h.get? x=some (PySem.W.instObj C dx)
 ns:h.Ns1 dx mA
 ne:dx≠x
set_option tactic.hygienic true in
theorem jL{h:Heap}{dx:Addr}{mA:Str->Option Value}(n:h.Ns1 dx mA):∃od,h.get? dx=some od/\∀name,PySem.W.lookIn name od=some (mA name):=by
 obtain⟨o,es,ep,ho,hd,hk,_,hm⟩:=n;refine⟨o,ho,fun name=>?_⟩;have e:=hm name;unfold nsFind findBy at e;rw[← Array.find?_toList]at e;unfold PySem.W.lookIn;rw[hd];dsimp only;split
 ·rename_i y q
  rw[q]at e;exact congrArg some e
 ·rename_i q
  rw[q]at e;have a:es.toList.any (·.refKey)=false:=by
   rw[List.any_eq_false];intro y hy;obtain⟨z,t,hkey⟩:=hk y (Array.mem_toList_iff.mp hy);simp[DictEntry.refKey,hkey]
  have a':¬ es.toList.any (·.refKey)=true:=by rw[a];exact Qa
  rw[if_neg a'];exact congrArg some e
theorem ObjM.look{h:Heap}{x dx C:Addr}{mA:Str->Option Value}(I:ObjM h x dx C mA):∃od,PySem.W.InstAt h x (PySem.W.instObj C dx) C (some od)/\∀name,PySem.W.lookIn name od=some (mA name) :=
 let ⟨od,ho,hl⟩:=jL I.ns
 ⟨od,⟨I.obj,rfl,rfl,ho⟩,hl⟩
theorem RelO.some_of{v:V}{o:Option Value}(r:RelO (some v) o):∃u,o=some u/\RelV v u:=by
 cases o with
 | none=>exact(show False from r).elim
 | some u=>exact⟨u,rfl,r⟩
theorem oN{v:V}{u:Value}(r:RelV v u):PySem.W.handedIn u=true:=by
 cases v with
 | non=>cases (show u=Value.none from r);rfl
 | bl b=>cases (show u=Value.bool b from r);rfl
 | int i=>obtain⟨t,e⟩:=(show ∃t,u=Value.int i t from r);cases e;rfl
 | str x=>obtain⟨t,e⟩:=(show ∃t,u=Value.str x t from r);cases e;rfl
 | byt b=>obtain⟨t,e⟩:=(show ∃t,u=Value.bytes b t from r);cases e;rfl
 | flt b=>obtain⟨t,e⟩:=(show ∃t,u=Value.float b t from r);cases e;rfl
 | ref a=>cases (show u=Value.ref a from r);rfl
 | ty n=>cases (show u=Value.type n from r);rfl
section
variable {P:Program}{w:World}{H H':Hp}{h h':Heap}{a C dx:Addr}{fs fs':List (Str×V)}
theorem rX(hok:HOk P w H h)(e:H a=some (.ins C dx fs)):∃mA,ObjM h a dx C mA/\(∀f,RelO (fs.lookup f) (mA f))/\PySem.Within mA (fs.map (·.1))/\fs.length<=1000/\H dx=some (.own a):=by
 obtain⟨d,z,ne,ob,mA,n,r,q⟩:=(show ObjOk P w H h a (.ins C dx fs) from hok a _ e);exact⟨mA,⟨ob,n,ne⟩,r,q,z,d⟩
end
structure Cls(K:PySem.W.Frag)(C:Addr):Prop where
 pg:PySem.W.plainGet K C Str.empty=true
 hd:PySem.W.hasDictIn K C=true
 po:PySem.W.plainOver K C=true
 sa:PySem.W.findIn K (.ref C) "__setattr__"=some (some (.builtin "object.__setattr__"))
theorem Cls.get{K:PySem.W.Frag}{C:Addr}(c:Cls K C)(f:Str):PySem.W.plainGet K C f=true:=c.pg
section
variable {X:Cx}{pins:List (Addr×Obj)}{σ:St}{H:Hp}{s:Shared}{a C dx:Addr}{fs:List (Str×V)}{f:Str}{v:V}{A:Around}{E:Value->Shared->Prop}
theorem rY{prog:Program}{w:World}{env:Env}{e:Expr}{f:Str}{pos:Pos}{s:Shared}{Q:Value->Shared->Prop}(hb:attributeBase e f env (eval e env)=eval e env)
  (h:wpAny (model prog w) A (eval e env) (fun o s₁=>wpAny (model prog w) A (getAttr o f true) Q E s₁) E s):wpAny (model prog w) A (eval (.Attribute e f pos) env) Q E s :=
 Attribute_any_ h (by rw[arm_eval_Attribute,hb])
end
section
variable {X:Cx}{pins:List (Addr×Obj)}{σ:St}{H:Hp}{s:Shared}{A:Around}{E:Value->Shared->Prop}{Q:Value->Shared->Prop}{c:Value}{b:Bool}
inductive TyOf(K:PySem.W.Frag)(H:Hp):V->Value->Prop where
 | non:TyOf K H .non (.type "NoneType")
 | bl (x:Bool):TyOf K H (.bl x) (.type "bool")
 | int (i:Int):TyOf K H (.int i) (.type "int")
 | str (x:Str):TyOf K H (.str x) (.type "str")
 | flt (x:UInt64):TyOf K H (.flt x) (.type "float")
 | lst {a:Addr} {xs:List V} (e:H a=some (.lst xs)):TyOf K H (.ref a) (.type "list")
 | frz {a:Addr} {o:Obj} {xs:List V} (e:H a=some (.frz o (.lst xs))):TyOf K H (.ref a) (.type "list")
 | tup {a:Addr} {xs:List V} (e:H a=some (.tup xs)):TyOf K H (.ref a) (.type "tuple")
 | dK {a:Addr} {kvs:List (Key×V)} (e:H a=some (.dK kvs)):TyOf K H (.ref a) (.type "dict")
 | dT {a:Addr} {ep:Nat×List Addr} {kvs:List (List Key×V)} (e:H a=some (.dT ep kvs)):TyOf K H (.ref a) (.type "dict")
 | ins {a C dx:Addr} {fs:List (Str×V)} (e:H a=some (.ins C dx fs)) (cl:Cls K C) (ha:PySem.W.findIn K (.ref C) "__class__"=some (some (.builtin "object.__class__")))
   (hn:PySem.W.specialIn K (.builtin "object.__class__") "__get__"=some (some (.builtin "getset_descriptor.__get__"))) (htk:PySem.W.takesIn K (.builtin "object.__class__")=some true)
   (hm:PySem.W.mroIn K C (.type "object")=some true):TyOf K H (.ref a) (.ref C)
theorem cq{x:V}{u t:Value}(I:Inv X pins σ H s)(rx:RelV x u)(ty:TyOf X.K H x t)(e:PySem.W.kitOne X.K t c=some b)(h:∀tk,Q (.bool b) { s with toks:=tk }) :
  wpAny (model X.prog X.w) A (call (.builtin "isinstance") [u,c]) Q E s:=by
 cases ty with
 | non=>cases (show u=Value.none from rx);exact PySem.W.kia_one PySem.W.kitx_none I.kIn True.intro e (fun z=>nomatch z) h
 | bl y=>cases (show u=Value.bool y from rx);exact PySem.W.kia_one PySem.W.kitx_bool I.kIn True.intro e (fun z=>nomatch z) h
 | int i=>obtain⟨t,q⟩:=(show ∃t,u=Value.int i t from rx);cases q;exact PySem.W.kia_one PySem.W.kitx_int I.kIn True.intro e (fun z=>nomatch z) h
 | str y=>obtain⟨t,q⟩:=(show ∃t,u=Value.str y t from rx);cases q;exact PySem.W.kia_one PySem.W.kitx_str I.kIn True.intro e (fun z=>nomatch z) h
 | flt y=>obtain⟨t,q⟩:=(show ∃t,u=Value.float y t from rx);cases q;exact PySem.W.kia_one PySem.W.kitx_float I.kIn True.intro e (fun z=>nomatch z) h
 | @lst a xs ea =>
  cases (show u=Value.ref a from rx);obtain⟨_,_,n,_,h1⟩:=(show ObjOk X.prog X.w H s.heap a (.lst xs) from I.hok a _ ea);exact PySem.W.kia_one PySem.W.kitx_list I.kIn ⟨_,h1,rfl⟩ e (fun z=>nomatch z) h
 | @frz a ob xs ea =>
  cases (show u=Value.ref a from rx);obtain⟨_,_,_,n,_,h1⟩:=(show ObjOk X.prog X.w H s.heap a (.frz ob (.lst xs)) from I.hok a _ ea);exact PySem.W.kia_one PySem.W.kitx_list I.kIn ⟨_,h1,rfl⟩ e (fun z=>nomatch z) h
 | @tup a xs ea =>
  cases (show u=Value.ref a from rx);obtain⟨_,_,_,p⟩:=(show ObjOk X.prog X.w H s.heap a (.tup xs) from I.hok a _ ea);obtain⟨o,h1,h2,_⟩:=p;exact PySem.W.kia_one PySem.W.kitx_tuple I.kIn ⟨o,h1,h2⟩ e (fun z=>nomatch z) h
 | @dK a kvs ea =>
  cases (show u=Value.ref a from rx);obtain⟨_,_,vs,_,p⟩:=(show ObjOk X.prog X.w H s.heap a (.dK kvs) from I.hok a _ ea);obtain⟨o,es,ep,h1,h2,_⟩:=p;exact PySem.W.kia_one PySem.W.kitx_dict I.kIn ⟨o,h1,h2.1⟩ e (fun z=>nomatch z) h
 | @dT a ep kvs ea =>
  cases (show u=Value.ref a from rx);obtain⟨_,_,xs,_,_,o,es,h1,h2,_⟩:=(show ObjOk X.prog X.w H s.heap a (.dT ep kvs) from I.hok a _ ea);exact PySem.W.kia_one PySem.W.kitx_dict I.kIn ⟨o,h1,h2.1⟩ e (fun z=>nomatch z) h
 | @ins a C dx fs ea cl ha hn htk hm =>
  cases (show u=Value.ref a from rx);obtain⟨mA,O,_⟩:=rX I.hok ea;obtain⟨od,J,_⟩:=O.look;exact PySem.W.kia_one (PySem.W.kitx_own (cl.get _) cl.hd ha hn htk hm) I.kIn J e (fun z=>nomatch z) h
end
end L2
namespace L2
open PySem PySem.Spec PyProof.Rows
structure Room(k:Nat)(A:Around):Prop where
 hd:A.handled=none
 dp:A.depth+3*k+5<recursionLimit
 un:A.units+16*k+200<cLine
theorem Room.mono{j k:Nat}{A:Around}(r:Room k A)(h:j<=k):Room j A:=⟨r.hd,by have:=r.dp;lia,by have:=r.un;lia⟩
theorem Room.deeper{k:Nat}{A:Around}(r:Room (k+1) A)(env:Env):Room k (A.deeper env) :=
 ⟨r.hd,by have:=r.dp;show A.depth+1+3*k+5<_;lia,by have:=r.un;show A.units+3+16*k+200<_;lia⟩
theorem mt{A:Around}{C:Addr}{us:List Value}{kw:List (Str×Value)}:(A.under (.builtin "type.__call__" ⟨.ref C::us,kw⟩)).depth=A.depth+1:=by
 first|rfl|simp[Around.under,Code.weight,Code.isCreation,Code.isGuard,Code.isCaller,Code.frames,Code.isFrame,guardIds]
theorem mv{A:Around}{C:Addr}{us:List Value}{kw:List (Str×Value)}:(A.under (.builtin "type.__call__" ⟨.ref C::us,kw⟩)).units=A.units+1:=by
 first|rfl|simp[Around.under,Code.cUnits,Code.frames,Code.isFrame]
theorem Room.make{k:Nat}{A:Around}(r:Room (k+1) A)(C:Addr)(us:List Value)(kw:List (Str×Value)):Room k (A.under (.builtin "type.__call__" ⟨.ref C::us,kw⟩)) :=
 ⟨r.hd,by have:=r.dp;rw[mt];lia,by have:=r.un;rw[mv];lia⟩
theorem Room.depth{k:Nat}{A:Around}(r:Room k A):A.depth<recursionLimit:=by have:=r.dp;lia
theorem Room.units{k:Nat}{A:Around}(r:Room k A):A.units+64<cLine:=by have:=r.un;lia
noncomputable def km:TA:=fun _ H Q=>Q [] H
noncomputable def cE(ta:TE)(tr:TA):TA:=fun σ H Q=>ta σ H fun x H1=>tr σ H1 fun xs H2=>Q (x::xs) H2
section
variable {X:Cx}{e:Expr}{es:List Expr}{te:TE}{t:TA}{pos:Pos}
theorem ag:PA X [] km:=fun _ _ _ _ H Q I h=>Calls.spliced_nil ⟨[],H,I,.nil,h⟩
theorem kn(ha:PE X e te)(hr:PA X es t)(hs:starEach (e::es) X.env=(false,eval e X.env)::starEach es X.env:=by rfl):PA X (e::es) (cE te t):=by
 intro pos pins s σ H Q I h;rw[hs];show wpAny _ _ (spliced ((false,eval e X.env)::backTo pos (starEach es X.env))) _ _ s;refine Calls.spliced_cons (thn (ha pins s σ H _ I h) fun u s1 zz9=>?_);obtain⟨x,H1,I1,r1,q1⟩:=zz9;exact thn (hr pos pins s1 σ H1 _ I1 q1) fun us s2 ⟨xs,H2,I2,r2,q2⟩=>⟨x::xs,H2,I2,.cons r1 r2,q2⟩
noncomputable def u4(t:TA):TE:=fun σ H Q=>t σ H fun xs H1=>xs.length<=sizeLine/\∀p,H1 p=none->Q (.ref p) (upd H1 p (.tup xs))
noncomputable def rZ(t:TA):TE:=fun σ H Q=>t σ H fun xs H1=>xs.length<=sizeLine/\∀p,H1 p=none->Q (.ref p) (upd H1 p (.lst xs))
theorem gW{x1}(h:PA X es t):PE X (.Tuple es x1 pos) (u4 t):=by
 intro pins s σ H Q I hq;refine wpAny_Tuple_spliced (thn (h pos pins s σ H _ I hq) fun us s1 ⟨xs,H1,I1,r,z,q⟩=>⟨by rw[← r.length];exact z,?_⟩)
 have hf:H1 s1.heap.objs.size=none:=I1.hok.fresh (Xa _);refine⟨.ref s1.heap.objs.size,upd H1 s1.heap.objs.size (.tup xs),I1.laid (t':=s1.toks) (fun b u e=>Heap.get?_push_of_some _ e) (Xa _) ?_,rfl,q _ hf⟩;exact⟨z,us,r,⟨_,Heap.get?_push_size _ rfl,rfl,_,rfl⟩⟩
theorem dj(h:PA X es t):PE X (.List es pos) (rZ t):=by
 intro pins s σ H Q I hq;refine wpAny_List_spliced (thn (h pos pins s σ H _ I hq) fun us s1 ⟨xs,H1,I1,r,z,q⟩=>⟨by rw[← r.length];exact z,?_⟩)
 have hf:H1 s1.heap.objs.size=none:=I1.hok.fresh (Xa _);refine⟨.ref s1.heap.objs.size,upd H1 s1.heap.objs.size (.lst xs),I1.laid (t':=s1.toks) (fun b u e=>Heap.get?_push_of_some _ e) (Xa _) ?_,rfl,q _ hf⟩;exact⟨z,us,0,r,Heap.get?_push_size _ rfl⟩
end
noncomputable abbrev Sp:=List V->Hp->VK->XK->Prop
noncomputable abbrev CXT:=List Env->Hp->Shared->XK->Value->Shared->Prop
structure Env0(P:Program)(w:World)(K:PySem.W.Frag)(mg:Str->Option Value)(base:Heap)(A:Around)(outer:List Env)(s:Shared)(H:Hp):Prop where
 frames:A.frames=some outer
 mod:Mod K mg base
 bs:∀b o,base.get? b=some o->s.heap.get? b=some o/\H b=none
 bsz:base.objs.size<=s.heap.objs.size
 funs:s.heap.FunFrames base outer
 frf:∀b∈frs outer,H b=none
 hok:HOk P w H s.heap
 bare:AllBare s.gens
noncomputable def CE(outer:List Env)(P:Program)(w:World)(H:Hp)(s:Shared)(Q:VK)(u:Value)(s':Shared):Prop :=
 ∃v H',s'.os=s.os/\AllBare s'.gens/\Un (frs outer) [] H H' s.heap s'.heap/\HOk P w H' s'.heap/\RelV v u/\Q v H'
noncomputable def CR(CX:CXT)(outer:List Env)(P:Program)(w:World)(H:Hp)(s:Shared)(Q:VK)(E:XK)(r:Result)(s':Shared):Prop :=
 match r with
 | .ok (.ret u)=>CE outer P w H s Q u s'
 | .ok _=>False
 | .error e=>CX outer H s E e s'
structure FnOk(P:Program)(w:World)(K:PySem.W.Frag)(mg:Str->Option Value)(base:Heap)(CX:CXT)(k:Nat)(f:Addr)(fd:FuncData)(ps:List Str)(sp:Sp):Prop where
 len:∀vs H Q E,sp vs H Q E->vs.length=ps.length
 run:∀(A:Around)(outer:List Env)(s:Shared)(H:Hp)(args:Args)(us:List Value)(vs:List V)(Q:VK)(E:XK),Room k A->Env0 P w K mg base A outer s H->BindsTo s fd args (ps.zip us)->Vals vs us->sp vs H Q E ->
  codeAny (model P w) A (.call (.ref f) args) (CR CX outer P w H s Q E) s
theorem FnOk.imp{P:Program}{w:World}{K:PySem.W.Frag}{mg:Str->Option Value}{base:Heap}{CX:CXT}{k:Nat}{f:Addr}{fd:FuncData}{ps:List Str}{sp sp':Sp}(F:FnOk P w K mg base CX k f fd ps sp)
  (h:∀vs H Q E,sp' vs H Q E->sp vs H Q E):FnOk P w K mg base CX k f fd ps sp' :=
 ⟨fun vs H Q E q=>F.len vs H Q E (h _ _ _ _ q),fun A outer s H args us vs Q E hr he hb hv hs=>F.run A outer s H args us vs Q E hr he hb hv (h _ _ _ _ hs)⟩
theorem Env0.make{P:Program}{w:World}{K:PySem.W.Frag}{mg:Str->Option Value}{base:Heap}{A:Around}{outer:List Env}{s:Shared}{H:Hp}(e:Env0 P w K mg base A outer s H)(C:Addr)(us:List Value)(kw:List (Str×Value)) :
  Env0 P w K mg base (A.under (.builtin "type.__call__" ⟨.ref C::us,kw⟩)) outer s H:=⟨by first|exact e.frames|(simpa[Around.under,Code.envs,Code.isFrame,pushEnvs]using e.frames),e.mod,e.bs,e.bsz,e.funs,e.frf,e.hok,e.bare⟩
section
variable {X:Cx}{pins:List (Addr×Obj)}{σ:St}{H:Hp}{s s':Shared}
theorem Inv.env0(I:Inv X pins σ H s):Env0 X.prog X.w X.K X.mg X.base X.A X.stack s H :=
 ⟨I.ok.frames,I.ok.mod,I.bs,Vb I.ok.bsz I.sz,I.stack,I.stkFree,I.hok,I.bare⟩
theorem Inv.after{Q:VK}{u:Value}(I:Inv X pins σ H s)(h:CE X.stack X.prog X.w H s Q u s'):EP X pins σ Q u s':=by
 obtain⟨v,H',os,bare,un,hok,r,q⟩:=h;obtain⟨hh,g,d,t,os'⟩:=s';obtain rfl:os'=s.os:=os;exact⟨v,H',I.call (h':=hh) (g':=g) (d':=d) (t':=t) (ch:=[]) un hok bare (fun b z=>absurd z (by simp)),r,q⟩
end
noncomputable def pO(sp:Sp)(dvs:List V)(E:XK)(t:TA):TE:=fun σ H Q=>t σ H fun vs H1=>sp (vs++dvs) H1 Q E
noncomputable def Binds(K:PySem.W.Frag)(fd:FuncData)(ps:List Str)(ds:List Value):Prop :=
 ∀(s:Shared)(us:List Value),K.In s.heap->(us++ds).length=ps.length->BindsTo s fd ⟨us,[]⟩ (ps.zip (us++ds))
theorem Binds.all{K:PySem.W.Frag}{fd:FuncData}{ps:List Str}(h:∀us:List Value,us.length=ps.length->bindArgs fd ⟨us,[]⟩=pure (ps.zip us)):Binds K fd ps []:=fun s us _ hl=>by
 rw[Xe]at hl ⊢;exact .of_eq (h us hl)
noncomputable def mw(CX:CXT)(X:Cx)(E:XK):Prop:=∀(pins:List (Addr×Obj))(σ:St)(H:Hp)(s:Shared)(e:Value)(s':Shared),Inv X pins σ H s->CX X.stack H s E e s'->X.xe e s'
section
variable {X:Cx}{CX:CXT}{k:Nat}{f C:Addr}{fd:FuncData}{ps:List Str}{sp:Sp}{dvs:List V}{ds:List Value}{E:XK}{x m:Str}{p pos apos:Pos}{e o:Expr}{es:List Expr}{ta:TE}{t:TA}
theorem u5{pins:List (Addr×Obj)}{σ:St}{H:Hp}{s:Shared}{Q:VK}{us:List Value}{vs:List V}(F:FnOk X.prog X.w X.K X.mg X.base CX k f fd ps sp)(hr:Room k X.A)(hb:Binds X.K fd ps ds)(hd:Vals dvs ds)(hx:mw CX X E)
  (I:Inv X pins σ H s)(r:Vals vs us)(h:sp (vs++dvs) H Q E):wpAny (model X.prog X.w) X.A (call (.ref f) us) (EP X pins σ Q) X.xe s:=by
 have r2:Vals (vs++dvs) (us++ds):=r.append hd;have hl:(us++ds).length=ps.length:=by rw[← r2.length];exact F.len _ _ _ _ h
 refine wpAny_call (codeAny_mono (F.run X.A X.stack s H ⟨us,[]⟩ (us++ds) (vs++dvs) Q E hr I.env0 (hb s us I.kIn hl) r2 h) fun r s' hq=>?_);cases r with
 | error e=>exact hx pins σ H s e s' I hq
 | ok fl =>
  cases fl with
  | ret u=>exact I.after hq
  | next=>exact False.elim hq
  | brk=>exact False.elim hq
  | cont=>exact False.elim hq
theorem r6(F:FnOk X.prog X.w X.K X.mg X.base CX k f fd ps sp)(hr:Room k X.A)(hg:Gl X x)(hm:X.mg x=some (.ref f))(hk:PySem.W.keepIn X.K (.ref f)=true)(hb:Binds X.K fd ps ds)(hd:Vals dvs ds)(hx:mw CX X E)
  (ha:PA X (e::es) t)(hdb:(x == ("__debug__":Str))=false:=by decide)(he:starEach (e::es) X.env=(false,eval e X.env)::starEach es X.env:=by rfl)(hpl:(backTo pos (starEach es X.env)).any (·.1)=false:=by rfl) :
  PE X (.Call (.Name x p) (e::es) [] pos) (pO sp dvs E t):=by
 intro pins s σ H Q I h;refine wpAny_Call_Name_kw (fw I hg hm ?_ hdb);refine PySem.W.callWith_K (h₀:=X.base) I.ok.mod.kin hk (thn (ha pos pins s σ H _ I h) fun us s1 ⟨vs,H1,I1,r,q⟩=>⟨I1.kIn,?_⟩) he hpl;exact u5 F hr hb hd hx I1 r q
end
structure FnScope(N P:List Str)(sc:Scope):Prop where
 kind:sc.kind=.function
 co:sc.isCoroutine=false
 gen:sc.isGenerator=false
 nd:N.Nodup
 pre:N.take P.length=P
 par:∀x∈P,sc.names.lookup x=some .local∨sc.names.lookup x=some .cell
 nofree:∀y∈sc.names,y.2≠.free
theorem jM{kindOf:Str->Option NameKind}{x:Str}:∀{binds:List (Str×Value)}{m:Str->Option Value},(∀v,(x,v)∉binds)->bindL kindOf binds m x=m x
 | [],_,_=>rfl
 | (n,v)::r,m,h=>by
  unfold bindL;rw[jM fun w hw=>h w (Xc _ hw)];split
  ·have:x≠n:=by rintro rfl;exact h v Wd
   simp[this]
  ·rfl
theorem jN{kindOf:Str->Option NameKind}{x:Str}:∀{binds:List (Str×Value)}{m:Str->Option Value},(∀v,(x,v)∉binds)->bindC kindOf binds m x=m x
 | [],_,_=>rfl
 | (n,v)::r,m,h=>by
  unfold bindC;rw[jN fun w hw=>h w (Xc _ hw)];split
  ·rfl
  ·have:x≠n:=by rintro rfl;exact h v Wd
   simp[this]
theorem jO{kindOf:Str->Option NameKind}{x:Str}{v:Value}:∀{P:List Str}{vs:List Value}{i:Nat}{m:Str->Option Value},P.Nodup->P[i]?=some x->vs[i]?=some v->kindOf x=some .local ->
  bindL kindOf (P.zip vs) m x=some v
 | [],_,_,_,_,h,_,_=>by simp at h
 | _::_,[],_,_,_,_,h,_=>by simp at h
 | p::P,w::vs,0,m,nd,h1,h2,hk=>by
  simp at h1 h2;subst h1;subst h2;show bindL kindOf ((p,w)::P.zip vs) m p=_;unfold bindL;rw[jM fun v hv=>(Qg.mp nd).1 (List.of_mem_zip hv).1,if_pos hk];simp
 | p::P,w::vs,i+1,m,nd,h1,h2,hk=>by
  show bindL kindOf ((p,w)::P.zip vs) m x=_;unfold bindL;exact jO (i:=i) (Qg.mp nd).2 (by simpa using h1) (by simpa using h2) hk
theorem jP{kindOf:Str->Option NameKind}{x:Str}{v:Value}:∀{P:List Str}{vs:List Value}{i:Nat}{m:Str->Option Value},P.Nodup->P[i]?=some x->vs[i]?=some v->kindOf x≠some .local ->
  bindC kindOf (P.zip vs) m x=some v
 | [],_,_,_,_,h,_,_=>by simp at h
 | _::_,[],_,_,_,_,h,_=>by simp at h
 | p::P,w::vs,0,m,nd,h1,h2,hk=>by
  simp at h1 h2;subst h1;subst h2;show bindC kindOf ((p,w)::P.zip vs) m p=_;unfold bindC;rw[jN fun v hv=>(Qg.mp nd).1 (List.of_mem_zip hv).1,if_neg hk];simp
 | p::P,w::vs,i+1,m,nd,h1,h2,hk=>by
  show bindC kindOf ((p,w)::P.zip vs) m x=_;unfold bindC;exact jP (i:=i) (Qg.mp nd).2 (by simpa using h1) (by simpa using h2) hk
noncomputable def start(N:List Str)(vs:List V):St:=vs.map some++List.replicate (N.length-vs.length) none
noncomputable def d8(CX:CXT)(P:Program)(w:World)(K:PySem.W.Frag)(mg:Str->Option Value)(base:Heap)(N:List Str)(qual:Str)(scope:Scope)(f:Addr)(cd:Value)(A:Around)(outer:List Env)(s:Shared)(H:Hp)(E:XK):Cx where
 prog:=P
 w:=w
 K:=K
 mg:=mg
 base:=base
 A:=A.deeper (envOfC qual scope s.heap.objs.size f cd)
 N:=N
 s₀:=s
 H₀:=H
 env:=envOfC qual scope s.heap.objs.size f cd
 outer:=outer
 stack:=envOfC qual scope s.heap.objs.size f cd::outer
 ex:=[]
 calm:=true
 fn:=fun _=>true
 pn:=[]
 xe:=fun e s'=>wpAny (model P w) (A.deeper (envOfC qual scope s.heap.objs.size f cd)) (leaving (envOfC qual scope s.heap.objs.size f cd) e) (fun _ s''=>CX outer H s E e s'') (fun e' s''=>CX outer H s E e' s'') s'
theorem lm{sc:Scope}{n:Nat}{x:Str}(h:sc.names.lookup x=some .cell):∃c,(cellsFrom n sc.names []).lookup x=some c:=by
 have q:=PySem.W.cellsFrom_some sc.names n [] (.inl h);exact Option.isSome_iff_exists.mp q
theorem oO{CX:CXT}{P:Program}{w:World}{K:PySem.W.Frag}{mg:Str->Option Value}{base:Heap}{N ps:List Str}{qual:Str}{scope:Scope}{f:Addr}{cd:Value}{A:Around}{outer:List Env}{s s1:Shared}{H:Hp}{E:XK}{us:List Value}{vs:List V}
  (S:FnScope N ps scope)(hd:A.handled=none)(e0:Env0 P w K mg base A outer s H)(hl:vs.length=ps.length)(r:Vals vs us)
  (x:InCallC s s.heap.objs.size (bindL (envOfC qual scope s.heap.objs.size f cd).kindOf (ps.zip us) fun _=>none) (cellsFrom (s.heap.objs.size+1) scope.names []) (bindC (envOfC qual scope s.heap.objs.size f cd).kindOf (ps.zip us) fun _=>none) s1) :
  Inv (d8 CX P w K mg base N qual scope f cd A outer s H E) [] (start N vs) H s1:=by
 have hpl:ps.length<=N.length:=by have:=congrArg List.length S.pre;rw[Zc]at this;lia
 obtain⟨h1,tk,rfl,hk⟩:=x.done;have noA:∀b:Addr,b∉(d8 CX P w K mg base N qual scope f cd A outer s H E).ex:=fun b z=>absurd (show b∈([]:List Addr) from z) (by simp)
 refine⟨⟨e0.mod,S.kind,rfl,rfl,Xa _,fun y z c h1 h2=>?_,fun y hy=>?_,fun y c _ h=>?_,fun _=>hd,Around.frames_deeper e0.frames,.inr ⟨rfl,rfl⟩,fun b z=>absurd z (noA b),e0.bs,e0.bsz,fun b _ _=>noA b,fun b z=>absurd z (noA b),e0.funs,e0.frf⟩,
  rfl,e0.bare,Un.kept hk,⟨_,x.toInCall.ns,fun i y v h1 h2 h3=>?_⟩,fun y c h=>⟨_,x.cell y c h⟩,e0.hok.fresh (Xa _),fun y c h=>?_,fun p hp=>absurd (show p∈([]:List (Addr×Obj)) from hp) (by simp),e0.hok.kept hk,?_⟩
 ·exact name_of_addr x.apart (PySem.mem_of_lookup h1) (PySem.mem_of_lookup h2)
 ·have hy:scope.names.lookup y=some .cell∨scope.names.lookup y=some .free:=hy;rcases hy with hy|hy
  ·exact lm hy
  ·exact absurd rfl (S.nofree _ (PySem.mem_of_lookup hy))
 ·exact Nat.le_of_lt (x.above y c (PySem.mem_of_lookup h))
 ·have hi:i<vs.length:=by
   unfold start at h2;by_cases hi:i<vs.length
   ·exact hi
   ·rw[Qb (by simpa using hi)]at h2
    rw[Yf]at h2;split at h2<;>cases h2
  have ha:vs[i]?=some v:=by
   unfold start at h2;rw[Xd (by simpa using hi),Qc]at h2
   cases e:vs[i]? with
   | none=>rw[e]at h2;cases h2
   | some a=>rw[e]at h2;cases h2;rfl
  obtain⟨u,hu,rv⟩:=r.get ha;have hp:ps[i]?=some y:=by
   rw[← S.pre,List.getElem?_take_of_lt (by lia)];exact h1
  have ndP:ps.Nodup:=by rw[← S.pre];exact S.nd.sublist (List.take_sublist _ _)
  refine⟨u,rv,?_⟩;rcases S.par y (Wi hp) with k|k
  ·exact .inl ⟨k,jO ndP hp hu k⟩
  ·obtain⟨c,e⟩:=lm (n:=s.heap.objs.size+1) k;refine .inr ⟨.inl k,c,e,?_⟩;have q:=x.cell y c e;rw[jP ndP hp hu (by show scope.names.lookup y≠_;rw[k];decide)]at q
   exact q
 ·exact e0.hok.fresh (Nat.le_of_lt (x.above y c (PySem.mem_of_lookup h)))
 ·unfold start;show _=N.length;rw[Wb,Xb,Vd];lia
theorem pP{CX:CXT}{P:Program}{w:World}{K:PySem.W.Frag}{mg:Str->Option Value}{base:Heap}{k:Nat}{f:Addr}{name qual:Str}{params:Arguments}{body:List Stmt}{scope:Scope}{dV kV doc pm cdv ct oc:Value}{an od:Option Addr}
  {osl:Array (Option Value)}{N ps:List Str}{sp:Sp}(lk:K.lookup f=some ⟨oc,od,.func (PySem.W.fnOf name qual params body scope dV kV doc pm an cdv ct),osl⟩)(hcd:PySem.W.codeIn K cdv qual=true)(S:FnScope N ps scope)
  (len:∀vs H Q E,sp vs H Q E->vs.length=ps.length)
  (hbody:∀(A:Around)(outer:List Env)(s:Shared)(H:Hp)(vs:List V)(Q:VK)(E:XK),Room k (A.deeper (envOfC qual scope s.heap.objs.size f cdv))->sp vs H Q E ->
   ∃t,PSs (d8 CX P w K mg base N qual scope f cdv A outer s H E) body t/\t { nx:=fun _ H'=>Q .non H',rt:=Q } (start N vs) H) :
  FnOk P w K mg base CX (k+1) f (PySem.W.fnOf name qual params body scope dV kV doc pm an cdv ct) ps sp:=by
 refine⟨len,fun A outer s H args us vs Q E hr e0 hb r hsp=>?_⟩;have hl:=len _ _ _ _ hsp;have KX:K.In s.heap:=e0.mod.kin.keeps fun b o e=>(e0.bs b o e).1;have lim:s.heap.NoLimit:=e0.mod.nolimit.keeps fun b o e=>(e0.bs b o e).1;have hkind:∀y∈ps.zip us,scope.names.lookup y.1=some .local∨(scope.names.lookup y.1=some .cell/\((cellsFrom (s.heap.objs.size+1) scope.names []).lookup y.1).isSome=true):=fun⟨n,v⟩ hy=>by
  rcases S.par n (List.of_mem_zip hy).1 with q|q
  ·exact .inl q
  ·exact .inr ⟨q,PySem.W.cellsFrom_some _ _ _ (.inl q)⟩
 refine codeAny_call_function hr.depth (KX _ _ lk) rfl S.co S.gen rfl (PySem.W.codeRec_of KX hcd) (hb _ _ _ _ ?_);refine wpAny_newFunctionEnv_cells S.kind hkind fun env he s1 x=>?_;subst he;refine⟨lim.keeps x.toInCall.keep,codeAny_func ?_⟩;obtain⟨t,ht,hq⟩:=hbody A outer s H vs Q E (hr.deeper _) hsp;have I:Inv (d8 CX P w K mg base N qual scope f cdv A outer s H E) [] (start N vs) H s1:=oO S hr.hd e0 hl r x;refine wpAny_mono (ht [] s1 (start N vs) H _ I hq) (fun fl s' hs=>?_) fun e s' hs=>hs;have fin:∀{σ':St}{H':Hp}{v:V}{u:Value},Inv (d8 CX P w K mg base N qual scope f cdv A outer s H E) [] σ' H' s'->RelV v u->Q v H'->CE outer P w H s Q u s' :=
  fun {σ' H' v u} J rv q=>⟨v,H',J.os,J.bare,J.base,J.hok,rv,q⟩
 cases fl with
 | ret u =>
  obtain⟨v,σ',H',J,rv,q⟩:=hs;exact fin J rv q
 | next =>
  obtain⟨σ',H',J,q⟩:=hs;exact fin (v:=V.non) (u:=Value.none) J rfl q
 | brk =>
  obtain⟨_,_,_,q⟩:=hs;exact False.elim q
 | cont =>
  obtain⟨_,_,_,q⟩:=hs;exact False.elim q
end L2
namespace L2
open PySem PySem.Spec PyProof.Rows
section
variable {X:Cx}{x:Str}{p pos:Pos}{e:Expr}{es:List Expr}{t:TA}{id T:String}{r:List V->Hp->VK->Prop}
noncomputable def tCB(r:List V->Hp->VK->Prop)(t:TA):TE:=fun σ H Q=>t σ H fun vs H1=>r vs H1 Q
theorem aL(hc:CallR X (.builtin id) r)(hg:Gl X x)(hm:X.mg x=none)(hv:bootBuiltins x=some (.builtin id))(ha:PA X (e::es) t)(hn:x≠"__name__":=by decide)(hdb:(x == ("__debug__":Str))=false:=by decide)
  (he:starEach (e::es) X.env=(false,eval e X.env)::starEach es X.env:=by rfl) (hpl:(backTo pos (starEach es X.env)).any (·.1)=false:=by rfl):PE X (.Call (.Name x p) (e::es) [] pos) (tCB r t):=by
 intro pins s σ H Q I h;refine wpAny_Call_Name_kw (iX I hg hm hv ?_ hn hdb);exact PyProof.Rows.callWith_builtin1 (thn (ha pos pins s σ H _ I h) fun us s1 ⟨vs,H1,I1,r1,q1⟩=>hc pins s1 σ H1 vs us Q I1 r1 q1) he hpl
theorem cr(hc:CallR X (.type T) r)(hg:Gl X x)(hm:X.mg x=none)(hv:bootBuiltins x=some (.type T))(ha:PA X (e::es) t)(hn:x≠"__name__":=by decide)(hdb:(x == ("__debug__":Str))=false:=by decide)
  (he:starEach (e::es) X.env=(false,eval e X.env)::starEach es X.env:=by rfl) (hpl:(backTo pos (starEach es X.env)).any (·.1)=false:=by rfl):PE X (.Call (.Name x p) (e::es) [] pos) (tCB r t):=by
 intro pins s σ H Q I h;refine wpAny_Call_Name_kw (iX I hg hm hv ?_ hn hdb);exact PyProof.Rows.callWith_type1 (thn (ha pos pins s σ H _ I h) fun us s1 ⟨vs,H1,I1,r1,q1⟩=>hc pins s1 σ H1 vs us Q I1 r1 q1) he hpl
end
end L2
namespace HT
open PySem PyProof.Rows
section
variable {prog:Program}{w:World}{A:Around}{E:Value->Shared->Prop}{s:Shared}
theorem cat_tup{t b:Addr}{vs ws:List Value}{Q:Value->Shared->Prop}(ht:IsTup s.heap t vs.toArray)(hb:IsTup s.heap b ws.toArray)(hv:vs≠[])
  (h1:ws=[]->Q (.ref t) s)(h2:ws≠[]->Q (.ref s.heap.objs.size) { s with heap:=s.heap.push { cls:=.type "tuple",data:=.seq (vs++ws).toArray } })
  (hsz:vs.length+ws.length<=sizeLine):wpAny (model prog w) A (binaryOp .Add (.ref t) (.ref b)) Q E s:=by
 obtain⟨⟨cls,dd,data,sl⟩,ho,hc,n,hd⟩:=id ht;obtain⟨⟨cls2,dd2,data2,sl2⟩,ho2,hc2,n2,hd2⟩:=id hb;simp only at hc hd hc2 hd2;subst hc hd hc2 hd2;have e:vs.toArray++ws.toArray=(vs++ws).toArray:=by simp
 by_cases hw:ws=[]
 ·exact concat_meets ⟨_,ho,rfl⟩ ⟨_,ho2,rfl⟩ noFill_tuple_add seq_tuple_add PySem.F.slot_tuple_add PySem.F.entry_tuple_add (PySem.F.args_tuple_add_2 _ _)
   (tuple_addW1 t b vs.toArray ws.toArray n n2 dd dd2 sl sl2 (by simpa using hv) (by simp[hw])) ⟨ho,ho2,h1 hw⟩
 ·refine concat_meets ⟨_,ho,rfl⟩ ⟨_,ho2,rfl⟩ noFill_tuple_add seq_tuple_add PySem.F.slot_tuple_add PySem.F.entry_tuple_add (PySem.F.args_tuple_add_2 _ _)
   (tuple_addW2 t b vs.toArray ws.toArray n n2 dd dd2 sl sl2 (by simpa using hv) (by simpa using hw) (by rw[Ya,Ya];exact hsz)) ⟨ho,ho2,?_⟩
  rw[e];exact h2 hw
noncomputable def sIx(n d:Nat):Option Int->Nat
 | none=>d
 | some v=>if v<0 then(v+(n:Int)).toNat else min v.toNat n
theorem sIx_none(n d:Nat):sIx n d none=d:=rfl
theorem sIx_nat(n d k:Nat):sIx n d (some (k:Int))=min k n:=by
 show(if (k:Int)<0 then((k:Int)+(n:Int)).toNat else min (k:Int).toNat n)=min k n;rw[if_neg (by lia),Wj]
theorem u6(n d:Nat)(hd:d<=n)(o:Option Int):sIx n d o<=n:=by
 cases o with
 | none=>exact hd
 | some v =>
  show(if v<0 then(v+(n:Int)).toNat else min v.toNat n)<=n;by_cases hv:v<0
  ·rw[if_pos hv];lia
  ·rw[if_neg hv];exact Nat.min_le_right _ _
theorem clip_nat(v:Int)(n:Nat)(hv:¬ v<0):min v (n:Int)=((min v.toNat n:Nat):Int):=by
 obtain⟨k,rfl⟩:=Yd (Int.not_lt.mp hv);rw[Wj];rcases Nat.le_total k n with h|h
 ·rw[Vh h];exact Int.min_eq_left (Int.ofNat_le.mpr h)
 ·rw[Nat.min_eq_right h];exact Int.min_eq_right (Int.ofNat_le.mpr h)
theorem nH(v:Int)(n d:Nat):(if v<0 then max (v+(n:Int)) 0 else min v (n:Int))=((sIx n d (some v):Nat):Int):=by
 show(if v<0 then max (v+(n:Int)) 0 else min v (n:Int))=(((if v<0 then(v+(n:Int)).toNat else min v.toNat n):Nat):Int);by_cases hv:v<0
 ·rw[if_pos hv,if_pos hv];exact(Int.ofNat_toNat _).symm
 ·rw[if_neg hv,if_neg hv];exact clip_nat v n hv
theorem mx(lo hi:Option Int)(n:Nat):Builtin.Slice.sliceAdjust lo hi 1 (n:Int)=(((sIx n 0 lo:Nat):Int),((sIx n n hi:Nat):Int)):=by
 have h1:¬ ((1:Int)<0):=by lia
 unfold Builtin.Slice.sliceAdjust;simp only[h1,if_false];refine Prod.ext ?_ ?_
 ·cases lo with
  | none=>rfl
  | some v=>exact nH v n 0
 ·cases hi with
  | none=>rfl
  | some v=>exact nH v n n
theorem my(i j:Nat):Builtin.Slice.slicePlaces (i:Int) (j:Int) 1=j-i:=by
 unfold Builtin.Slice.slicePlaces;have h1:(1:Int) > 0:=by lia
 simp only[h1,if_true,Int.ediv_one];split<;>lia
theorem slicePart_{v:Value}{o:Option Int}{Q:Option Int->Shared->Prop}(p:IsPart v o)(h:Q o s):wpAny (model prog w) A (Builtin.Slice.slicePartIndex v) Q E s:=by
 cases p with
 | none=>exact slicePart_none h
 | int i t=>exact slicePart_int h
theorem dD{sl:Addr}{vl vu:Value}{lo hi:Option Int}{n:Nat}{Q:Int×Int×Nat->Shared->Prop}(hs:s.heap.IsSliceOf sl vl vu .none)(pl:IsPart vl lo)(pu:IsPart vu hi)
  (h:Q (((sIx n 0 lo:Nat):Int),1,sIx n n hi-sIx n 0 lo) s):wpAny (model prog w) A (Builtin.Slice.sliceApplied (.ref sl) (pure (n:Int))) Q E s:=by
 obtain⟨os,hos,hcs,hds⟩:=id hs;unfold Builtin.Slice.sliceApplied Builtin.Slice.sliceFields;refine wpAny_bind (wpAny_bind (wpAny_field hos hds (x:=vl) rfl (wpAny_bind (wpAny_field hos hds (x:=vu) rfl (wpAny_bind (wpAny_field hos hds (x:=.none) rfl (wpAny_pure ?_)))))));refine wpAny_bind (slicePart_none ?_);show wpAny _ _ (if ((1:Int) == 0)=true then _ else _) _ _ s;rw[if_neg (by decide)]
 refine wpAny_bind (slicePart_ pl (wpAny_bind (slicePart_ pu (wpAny_bind (wpAny_pure ?_)))));show wpAny _ _ (match Builtin.Slice.sliceAdjust lo hi 1 (n:Int) with|(lo,hi)=>pure (lo,(1:Int),Builtin.Slice.slicePlaces lo hi 1)) _ _ s
 rw[mx lo hi n];show wpAny _ _ (pure (((sIx n 0 lo:Nat):Int),(1:Int),Builtin.Slice.slicePlaces ((sIx n 0 lo:Nat):Int) ((sIx n n hi:Nat):Int) 1)) _ _ s;rw[my];exact wpAny_pure h
theorem pQ(xs:Array Value)(i k:Nat):((List.range k).filterMap fun(m:Nat)=>xs[((i:Int)+(m:Int)*1).toNat]?).toArray=((xs.toList.drop i).take k).toArray:=by
 have e:(fun(m:Nat)=>xs[((i:Int)+(m:Int)*1).toNat]?)=fun m=>xs[i+m]?:=by
  funext m
  have:((i:Int)+(m:Int)*1).toNat=i+m:=by lia
  rw[this]
 rw[e];have:=pick_run xs i k;rw[List.filterMap_map]at this;have e2:((fun x=>xs[x]?) ∘ fun x=>i+x)=fun m=>xs[i+m]?:=rfl;rw[e2]at this;rw[this]
theorem getItem_tuple_cut{t sl:Addr}{items:Array Value}{vl vu:Value}{lo hi:Option Int}{Q:Value->Shared->Prop}(ht:IsTup s.heap t items)(hs:s.heap.IsSliceOf sl vl vu .none)(pl:IsPart vl lo)(pu:IsPart vu hi)
  (hw:¬ (sIx items.size 0 lo=0/\sIx items.size items.size hi=items.size))
  (h:Q (.ref s.heap.objs.size) { s with heap:=s.heap.push { cls:=.type "tuple",data:=.seq ((items.toList.drop (sIx items.size 0 lo)).take (sIx items.size items.size hi-sIx items.size 0 lo)).toArray } })
  (hsz:items.size<=sizeLine):wpAny (model prog w) A (getItem (.ref t) (.ref sl)) Q E s:=by
 have htake:sizeOk (.seq ((items.toList.drop (sIx items.size 0 lo)).take (sIx items.size items.size hi-sIx items.size 0 lo)).toArray):=by
  show((items.toList.drop (sIx items.size 0 lo)).take (sIx items.size items.size hi-sIx items.size 0 lo)).toArray.size<=sizeLine;rw[Ya,Zc,Wc,Wf];exact Vb (Nat.min_le_right _ _) (Vb (Nat.sub_le _ _) hsz)
 have hj:sIx items.size items.size hi<=items.size:=u6 _ _ (Xa _) hi;obtain⟨os,hos,hcs,hds⟩:=id hs;have hTs:s.TypeIs (.ref sl) "slice":=⟨os,hos,hcs⟩;unfold getItem
 try with_reducible refine wpAny_holding ?_
 first|refine wpAny_bind (wpAny_pure ?_)|skip
 refine wpAny_bind (wpAny_sequenceKey ht.typeIs (by decide) ?_)
 refine wpAny_bind (wpAny_callSpecial?_slot (name:=Str.ofString "__getitem__") ht.typeIs PyProof.Rows.slot_tuple_getitem
  (wpAny_call_entry PyProof.Rows.slot_tuple_getitem ht.typeIs entry_tuple_getitem ?_ (args_tuple_getitem _ _)))
 show wpAny _ _ (Builtin.Tuple.tupleItemsOf (.ref t) >>= _) _ _ s;refine wpAny_bind (tupleItemsOf_ ht ?_);refine wpAny_bind (wpAny_typeOf hTs ?_);rw[if_pos (by decide)]
 refine wpAny_bind (dD hs pl pu ?_);have hno:¬ ((((sIx items.size 0 lo:Nat):Int) == 0&&(1:Int) == 1&&(sIx items.size items.size hi-sIx items.size 0 lo) == items.size)=true):=by
  intro q;rw[Vc,Vc]at q;have q1:((sIx items.size 0 lo:Nat):Int)=0:=eq_of_beq q.1.1;have q2:sIx items.size items.size hi-sIx items.size 0 lo=items.size:=eq_of_beq q.2;exact hw ⟨by lia,by lia⟩
 show wpAny _ _ (if (((sIx items.size 0 lo:Nat):Int) == 0&&(1:Int) == 1&&(sIx items.size items.size hi-sIx items.size 0 lo) == items.size)=true then _ else _) _ _ s;rw[if_neg hno,pQ]
 first
  | exact wpAny_bind (m:=Builtin.Tuple.tupleExact _) (wpAny_newObj_type (wpAny_pure ⟨_,rfl,wpAny_pure h⟩) htake)
  | exact wpAny_bind (m:=Builtin.Tuple.tupleExact _) (wpAny_newObj_type (wpAny_bind (wpAny_pure (wpAny_pure ⟨_,rfl,wpAny_pure h⟩))) htake)
  | exact wpAny_bind (wpAny_bind (m:=Builtin.Tuple.tupleExact _) (wpAny_newObj_type (wpAny_pure (wpAny_pure ⟨_,rfl,wpAny_pure h⟩)) htake))
  | exact wpAny_bind (wpAny_bind (m:=Builtin.Tuple.tupleExact _) (wpAny_newObj_type (wpAny_pure ⟨_,rfl,wpAny_pure h⟩) htake))
end
end HT
namespace L2
open PySem PySem.Spec PyProof.Rows
noncomputable abbrev TO:=St->Hp->(Option Int->Hp->Prop)->Prop
noncomputable def PO(X:Cx)(e:Option Expr)(t:TO):Prop :=
 ∀(pins:List (Addr×Obj))(s:Shared)(σ:St)(H:Hp)(Q:Option Int->Hp->Prop),Inv X pins σ H s->t σ H Q ->
  wpAny (model X.prog X.w) X.A (evalPart e X.env) (fun u s'=>∃o H',Inv X pins σ H' s'/\IsPart u o/\Q o H') X.xe s
noncomputable def nI:TO:=fun _ H Q=>Q none H
noncomputable def uc(t:TE):TO:=fun σ H Q=>t σ H fun x H1=>∃i,x=.int i/\Q (some i) H1
section
variable {X:Cx}{e:Expr}{te:TE}{lo hi:Option Expr}{tl th:TO}{pos p2:Pos}
theorem cc:PO X none nI:=by
 intro pins s σ H Q I h;rw[evalPart_none];exact wpAny_pure ⟨none,H,I,.none,h⟩
theorem aP(h:PE X e te):PO X (some e) (uc te):=by
 intro pins s σ H Q I hw;rw[evalPart_some];refine thn (h pins s σ H _ I hw) fun u s1 zz9=>?_;obtain⟨x,H1,I1,r1,q1⟩:=zz9;obtain⟨i,rfl,q⟩:=q1;obtain⟨t,rfl⟩:=r1;exact⟨some i,H1,I1,.int i t,q⟩
noncomputable def SlR(X:Cx)(r:V->Option Int->Option Int->Hp->VK->Prop):Prop :=
 ∀(pins:List (Addr×Obj))(s:Shared)(σ:St)(H:Hp)(x:V)(v vl vu:Value)(lo hi:Option Int)(sl:Addr)(Q:VK),Inv X pins σ H s->RelV x v->s.heap.IsSliceOf sl vl vu .none->IsPart vl lo->IsPart vu hi->r x lo hi H Q ->
  ∃T id,typeLookup (.type T) "__getitem__"=pure (some (.builtin id))/\s.TypeIs v T/\wpAny (model X.prog X.w) X.A (getItem v (.ref sl)) (EP X pins σ Q) X.xe s
theorem SlR.or{r r':V->Option Int->Option Int->Hp->VK->Prop}(h:SlR X r)(h':SlR X r'):SlR X (fun x lo hi H Q=>r x lo hi H Q∨r' x lo hi H Q):=by
 intro pins s σ H x v vl vu lo hi sl Q I rx hs pl pu q;rcases q with q|q
 ·exact h pins s σ H x v vl vu lo hi sl Q I rx hs pl pu q
 ·exact h' pins s σ H x v vl vu lo hi sl Q I rx hs pl pu q
noncomputable def tSl(r:V->Option Int->Option Int->Hp->VK->Prop)(te:TE)(tl th:TO):TE:=fun σ H Q=>te σ H fun x H1=>tl σ H1 fun l H2=>th σ H2 fun u H3=>r x l u H3 Q
theorem be{r:V->Option Int->Option Int->Hp->VK->Prop}(hr:SlR X r)(he:PE X e te)(hl:PO X lo tl)(hu:PO X hi th):PE X (.Subscript e (.Slice lo hi none p2) pos) (tSl r te tl th):=by
 intro pins s σ H Q I h;refine Subscript_ (thn (he pins s σ H _ I h) fun v s1 zz9=>?_);obtain⟨x,H1,I1,r1,q1⟩:=zz9;refine wpAny_Slice (thn (hl pins s1 σ H1 _ I1 q1) fun vl s2 ⟨l,H2,I2,pl,q2⟩=>thn (hu pins s2 σ H2 _ I2 q2) fun vu s3 zz9=>?_);obtain⟨u,H3,I3,pu,q3⟩:=zz9;rw[evalPart_none];refine wpAny_pure ?_;have I4:Inv X pins σ H3 { s3 with heap:=s3.heap.push { cls:=.type "slice",data:=.fields #[vl,vu,.none] } }:=I3.kept (t':=s3.toks) fun b ob q=>Heap.get?_push_of_some _ q;obtain⟨T,id,hT,ht,hg⟩:=hr pins { s3 with heap:=s3.heap.push { cls:=.type "slice",data:=.fields #[vl,vu,.none] } } σ H3 x v vl vu l u s3.heap.objs.size Q I4 r1 (Heap.IsSliceOf.new ..) pl pu q3;show wpAny (model X.prog X.w) X.A (subscriptTail e (.Slice lo hi none p2) v (.ref s3.heap.objs.size)) (EP X pins σ Q) X.xe { s3 with heap:=s3.heap.push { cls:=.type "slice",data:=.fields #[vl,vu,.none] } };exact tail_any (ops:=[.ref s3.heap.objs.size,v]) ht hT hg (by with_unfolding_all rfl)
noncomputable def ln(xs:List V)(lo hi:Option Int):List V:=(xs.drop (HT.sIx xs.length 0 lo)).take (HT.sIx xs.length xs.length hi-HT.sIx xs.length 0 lo)
theorem il(xs:List V)(lo hi:Option Int):(ln xs lo hi).length<=xs.length:=by
 unfold ln;rw[Zc,Wc];lia
noncomputable def u7(K:PySem.W.Frag):V->Option Int->Option Int->Hp->VK->Prop:=fun x lo hi H Q=>∃a xs,x=.ref a/\SqT K H a xs /\
 ¬ (HT.sIx xs.length 0 lo=0/\HT.sIx xs.length xs.length hi=xs.length)/\∀p,H p=none->Q (.ref p) (upd H p (.tup (ln xs lo hi)))
theorem u8:SlR X (u7 X.K):=by
 intro pins s σ H x v vl vu lo hi sl Q I rx hs pl pu h;obtain⟨a,xs,rfl,hx,hw,q⟩:=h;cases rx;obtain⟨its,r,ht,hz⟩:=I.tuple hx;have hlen:its.toArray.size=xs.length:=by rw[Ya];exact r.length.symm
 refine⟨"tuple",_,PyProof.Rows.slot_tuple_getitem.lookup,ht.typeIs,?_⟩;refine HT.getItem_tuple_cut ht hs pl pu (by rw[hlen];exact hw) ?_ (by rw[hlen];exact hz)
 rw[hlen];refine⟨.ref s.heap.objs.size,_,I.laid (t':=s.toks) (o:=.tup (ln xs lo hi)) (fun b ob q=>Heap.get?_push_of_some _ q) (Xa _) ?_,rfl,q _ (I.hok.fresh (Xa _))⟩;exact⟨Vb (il xs lo hi) hz,_,(r.drop (HT.sIx xs.length 0 lo)).take (HT.sIx xs.length xs.length hi-HT.sIx xs.length 0 lo),IsTup.new _ _⟩
noncomputable def pR(K:PySem.W.Frag):R2:=fun x y H Q=>∃a b xs ys,x=.ref a/\y=.ref b/\SqT K H a xs/\SqT K H b ys/\xs≠[]/\xs.length+ys.length<=sizeLine /\
 (ys=[]->Q (.ref a) H)/\(ys≠[]->∀p,H p=none->Q (.ref p) (upd H p (.tup (xs++ys))))
theorem Vals.nil_iff{xs:List V}{us:List Value}(r:Vals xs us):us=[]↔xs=[]:=by
 cases r with
 | nil=>simp
 | cons _ _=>simp
theorem r9:OpR X (binaryOp .Add) (pR X.K):=by
 intro pins s σ H x y v u Q I rx ry h;obtain⟨a,b,xs,ys,rfl,rfl,ha,hb,hx,hz,q1,q2⟩:=h;cases rx;cases ry;obtain⟨its,r1,p1,_⟩:=I.tuple ha;obtain⟨its2,r2,p2,_⟩:=I.tuple hb;refine HT.cat_tup p1 p2 (fun z=>hx (r1.nil_iff.mp z)) (fun z=>⟨.ref a,H,I,rfl,q1 (r2.nil_iff.mp z)⟩) (fun z=>?_) (by rw[← r1.length,← r2.length];exact hz)
 refine⟨.ref s.heap.objs.size,_,I.laid (t':=s.toks) (o:=.tup (xs++ys)) (fun b ob q=>Heap.get?_push_of_some _ q) (Xa _) ?_,rfl,q2 (fun w=>z (r2.nil_iff.mpr w)) _ (I.hok.fresh (Xa _))⟩;exact⟨by rw[Wb];exact hz,_,r1.append r2,IsTup.new _ _⟩
end
end L2
namespace L2
open PySem PySem.Spec PyProof.Rows
noncomputable def ixN(n:Nat)(i:Int):Option Nat:=if 0<=i then(if i<n then some i.toNat else none) else if -(n:Int)<=i then some (i+n).toNat else none
noncomputable def atI{α:Type}(xs:List α)(i:Int):Option α:=(ixN xs.length i).bind fun j=>xs[j]?
theorem nJ{n:Nat}{i:Int}{j:Nat}(h:ixN n i=some j):seqIndex? i n=some j/\j<n/\-(n:Int)<=i/\i<n:=by
 unfold ixN at h;by_cases h0:0<=i
 ·rw[if_pos h0]at h;by_cases h1:i<n
  ·rw[if_pos h1]at h;have e:i.toNat=j:=Option.some.inj h;exact⟨by rw[seqIndex_of h0 h1,e],by lia,by lia,h1⟩
  ·rw[if_neg h1]at h;cases h
 ·rw[if_neg h0]at h;by_cases h1:-(n:Int)<=i
  ·rw[if_pos h1]at h;have e:(i+n).toNat=j:=Option.some.inj h;exact⟨by rw[seqIndex_neg (by lia) h1,e],by lia,h1,by lia⟩
  ·rw[if_neg h1]at h;cases h
theorem kr{α:Type}{xs:List α}{i:Int}{v:α}(h:atI xs i=some v):∃j,seqIndex? i xs.length=some j/\xs[j]?=some v/\j<xs.length/\-(xs.length:Int)<=i/\i<xs.length:=by
 unfold atI at h;cases e:ixN xs.length i with
 | none=>rw[e]at h;cases h
 | some j =>
  rw[e]at h;obtain⟨h1,h2,h3,h4⟩:=nJ e;exact⟨j,h1,h,h2,h3,h4⟩
theorem gx{α:Type}{xs:List α}{j:Nat}{v:α}(h:xs[j]?=some v):atI xs (j:Int)=some v:=by
 have hj:j<xs.length:=(Wa.mp h).1;have e:ixN xs.length (j:Int)=some j:=by
  unfold ixN;rw[if_pos (by lia),if_pos (by lia)];simp
 unfold atI;rw[e];exact h
noncomputable def nK(b:Expr):Prop:=∀o i,subscripted b false o i=operate [o,i] (getItem o i)
noncomputable def IxR(X:Cx)(r:R2):Prop :=
 ∀(value slice:Expr)(pins:List (Addr×Obj))(s:Shared)(σ:St)(H:Hp)(x y:V)(v u:Value)(Q:VK),Inv X pins σ H s->RelV x v->RelV y u->r x y H Q ->
  subscripted slice false v u=operate [v,u] (getItem v u)->wpAny (model X.prog X.w) X.A (subscriptTail value slice v u) (EP X pins σ Q) X.xe s
noncomputable def MtR(X:Cx)(id:String)(r:V->List V->Hp->VK->Prop):Prop :=
 ∀(pins:List (Addr×Obj))(s:Shared)(σ:St)(H:Hp)(x:V)(xs:List V)(v:Value)(us:List Value)(Q:VK),Inv X pins σ H s->RelV x v->Vals xs us->r x xs H Q ->
  wpAny (model X.prog X.w) X.A (call (.builtin id) (v::us)) (EP X pins σ Q) X.xe s
section
variable {X:Cx}{a b:Expr}{ta tb:TE}{pos:Pos}
theorem IxR.or{r r':R2}(h:IxR X r)(h':IxR X r'):IxR X (fun x y H Q=>r x y H Q∨r' x y H Q):=by
 intro value slice pins s σ H x y v u Q I rx ry q hs;rcases q with q|q
 ·exact h value slice pins s σ H x y v u Q I rx ry q hs
 ·exact h' value slice pins s σ H x y v u Q I rx ry q hs
theorem aM{r:R2}(hr:IxR X r)(ha:PE X a ta)(hb:PE X b tb)(hs:nK b):PE X (.Subscript a b pos) (tOp r ta tb):=by
 intro pins s σ H Q I h;exact Subscript_ (u1 ha hb I h fun v u s2 x y H2 I2 rx ry q=>hr a b pins s2 σ H2 x y v u Q I2 rx ry q (hs _ _))
noncomputable def u9(K:PySem.W.Frag):R2:=fun x y H Q=>∃p xs i v,x=.ref p/\y=.int i/\SqL K H p xs/\atI xs i=some v/\Q v H
noncomputable def va(K:PySem.W.Frag):R2:=fun x y H Q=>∃p xs i v,x=.ref p/\y=.int i/\SqT K H p xs/\atI xs i=some v/\Q v H
noncomputable def vb:R2:=fun x y H Q=>∃z i c,x=.str z/\y=.int i/\z.length<=sizeLine/\atI z.cps.toList i=some c/\Q (.str ⟨#[c]⟩) H
theorem ix_list:IxR X (u9 X.K):=by
 intro value slice pins s σ H x y v u Q I rx ry h hs;obtain⟨p,xs,i,z,rfl,rfl,hq,he,q⟩:=h;cases rx;obtain⟨t,rfl⟩:=ry;obtain⟨its,r,pl,hz⟩:=I.list hq;obtain⟨j,h1,h2,h3,h4,h5⟩:=kr he;obtain⟨w,ew,rw'⟩:=r.get h2;have hl:=r.length;have hn:=gU;have fin:EP X pins σ Q w s:=⟨z,H,I,rw',q⟩;by_cases h0:0<=i
 ·have hj:i.toNat=j:=by
   rw[seqIndex_of h0 h5]at h1;exact Option.some.inj h1
  exact item_listR pl.isList h0 (by lia) (by rw[hj];simpa using ew) fin hs
 ·have hj:(i+(its.toArray.size:Int)).toNat=j:=by
   rw[seqIndex_neg (by lia) h4]at h1
   rw[Ya,← hl];exact Option.some.inj h1
  exact subscriptTail_builtinR (x:=w) pl.isList.typeIs slot_list_getitem.lookup
   (wpAny_getItem_list_neg (Q:=fun r s'=>r=w/\EP X pins σ Q r s') pl.isList (by lia) (by rw[Ya]<;>lia) (by lia) (by rw[hj];simpa using ew) ⟨rfl,fin⟩) hs
theorem ix_tup:IxR X (va X.K):=by
 intro value slice pins s σ H x y v u Q I rx ry h hs;obtain⟨p,xs,i,z,rfl,rfl,hq,he,q⟩:=h;cases rx;obtain⟨t,rfl⟩:=ry;obtain⟨its,r,pl,hz⟩:=I.tuple hq;obtain⟨j,h1,h2,h3,h4,h5⟩:=kr he;obtain⟨w,ew,rw'⟩:=r.get h2;have hl:=r.length;have hn:=gU;have fin:EP X pins σ Q w s:=⟨z,H,I,rw',q⟩;exact subscriptTail_builtinR (x:=w) pl.typeIs slot_tuple_getitem.lookup
  (getItem_tuple (j:=j) (Q:=fun r s'=>r=w/\EP X pins σ Q r s') pl (by lia) (by lia) (by rw[Ya,← hl];exact h1) (by simpa using ew) ⟨rfl,fin⟩) hs
theorem ix_str:IxR X vb:=by
 intro value slice pins s σ H x y v u Q I rx ry h hs;obtain⟨z,i,c,rfl,rfl,hz,he,q⟩:=h;obtain⟨t,rfl⟩:=rx;obtain⟨t',rfl⟩:=ry;obtain⟨j,h1,h2,h3,h4,h5⟩:=kr he;have hl:z.cps.toList.length=z.length:=by simp[Str.length]
 rw[hl]at h1 h4 h5;have hn:=gU
 exact tail_any (typeIs_str s z t) slot_str_getitem.lookup (getItem_str (c:=c) (by
  have e1:decide (i < -(2 ^ 63:Int))=false:=decide_eq_false (by lia)
  have e2:decide (i ≥ 2 ^ 63)=false:=decide_eq_false (by lia)
  rw[e1,e2,Bool.or_false]) (by rw[h1];simpa using h2) ⟨.str ⟨#[c]⟩,H,I.tok _,⟨_,rfl⟩,q⟩) hs
noncomputable def rIx(K:PySem.W.Frag):R2:=fun x y H Q=>u9 K x y H Q∨va K x y H Q∨vb x y H Q
theorem vc:IxR X (rIx X.K):=ix_list.or (ix_tup.or ix_str)
theorem mz(its:List Value)(n j:Nat)(u:Value):Obj.mapSeq (·.setIfInBounds j u) { cls:=.type "list",data:=.seq its.toArray n }={ cls:=.type "list",data:=.seq (its.set j u).toArray n }:=by
 simp[Obj.mapSeq]
theorem Inv.lst{pins:List (Addr×Obj)}{σ:St}{H:Hp}{s:Shared}{p:Addr}{xs:List V}(I:Inv X pins σ H s)(h:H p=some (.lst xs)) :
  ∃(its:List Value)(n:Nat),Vals xs its/\s.heap.get? p=some { cls:=.type "list",data:=.seq its.toArray n }/\xs.length<=sizeLine:=by
 obtain⟨z,its,n,r,e⟩:=I.hok p _ h;exact⟨its,n,r,e,z⟩
theorem Inv.lstUpd{pins:List (Addr×Obj)}{σ:St}{H:Hp}{s:Shared}{p:Addr}{xs ys:List V}{its its':List Value}{n n':Nat}{f:Obj->Obj}(I:Inv X pins σ H s)(h:H p=some (.lst xs))
  (ho:s.heap.get? p=some { cls:=.type "list",data:=.seq its.toArray n })(hf:f { cls:=.type "list",data:=.seq its.toArray n }={ cls:=.type "list",data:=.seq its'.toArray n' })(r:Vals ys its')(hz:ys.length<=sizeLine)(t:Nat) :
  Inv X pins σ (upd H p (.lst ys)) { s with heap:=s.heap.update p f,toks:=t }:=by
 have e:(s.heap.update p f).get? p=some { cls:=.type "list",data:=.seq its'.toArray n' }:=by
  rw[Heap.get?_update_self f ho (by rw[hf]<;>rfl),hf]
 refine I.write (x:=p) (e:=p) (by rw[h];trivial) (.inl rfl) (fun b u hb q=>(Heap.get?_update_other _ _ (Ne.symm hb)).trans q) ⟨_,e⟩ ?_
 exact⟨hz,its',n',r,e⟩
noncomputable def ud:V->V->V->Hp->(Hp->Prop)->Prop:=fun o i v H Q=>∃p xs k j,o=.ref p/\i=.int k/\H p=some (.lst xs)/\ixN xs.length k=some j/\Q (upd H p (.lst (xs.set j v)))
theorem set_list:ww X ud:=by
 intro pins s σ H o i v ov iv u Q I ro ri rv h;obtain⟨p,xs,k,j,rfl,rfl,hp,hj,q⟩:=h;cases ro;obtain⟨t,rfl⟩:=ri;obtain⟨its,n,r,ho,hz⟩:=I.lst hp;obtain⟨h1,h2,h3,h4⟩:=nJ hj;have hl:=r.length;have hn:=gU;have I':Inv X pins σ (upd H p (.lst (xs.set j v))) { s with heap:=s.heap.update p (Obj.mapSeq (·.setIfInBounds j u)) } :=
  I.lstUpd hp ho (mz its n j u) (r.set rv j) (by rw[List.length_set];exact hz) s.toks
 by_cases h0:0<=k
 ·have hk:k.toNat=j:=by
   rw[seqIndex_of h0 h4]at h1;exact Option.some.inj h1
  exact PySem.W.ki_setAt ho h0 (by lia) (by rw[Ya,← hl];exact h4) (by rw[hk];exact⟨_,I',q⟩)
 ·have hk:(k+(its.toArray.size:Int)).toNat=j:=by
   rw[seqIndex_neg (by lia) h3]at h1
   rw[Ya,← hl];exact Option.some.inj h1
  exact PySem.W.ki_setBack ho (by lia) (by rw[Ya,← hl];exact h3) (by lia) (by rw[hk];exact⟨_,I',q⟩)
theorem pS(i:Int)(n:Nat):max 0 (min (if i<0 then i+(n:Int) else i) (n:Int))=(((if i<0 then(i+(n:Int)).toNat else min i.toNat n):Nat):Int):=by
 by_cases h:i<0
 ·rw[if_pos h,if_pos h,Int.min_eq_left (by lia),Int.max_comm];exact(Int.ofNat_toNat _).symm
 ·rw[if_neg h,if_neg h,HT.clip_nat i n h];exact Int.max_eq_right (Yj _)
theorem ks(lo hi:Option Int)(n:Nat):(sliceBounds lo hi none n).1=((HT.sIx n 0 lo:Nat):Int)/\(sliceBounds lo hi none n).2.1=((HT.sIx n n hi:Nat):Int)/\(sliceBounds lo hi none n).2.2=1:=by
 refine⟨?_,?_,rfl⟩
 ·cases lo with
  | none=>simp[sliceBounds,HT.sIx]
  | some i=>exact pS i n
 ·cases hi with
  | none=>simp[sliceBounds,HT.sIx]
  | some i=>exact pS i n
theorem jA(its:List Value)(lo hi:Option Int):slicePick its.toArray lo hi none=((its.drop (HT.sIx its.length 0 lo)).take (HT.sIx its.length its.length hi-HT.sIx its.length 0 lo)).toArray:=by
 obtain⟨h1,h2,h3⟩:=ks lo hi its.toArray.size;unfold slicePick;rw[h1,h2,h3];simp only[sliceRange_one,pick_run,Ya]<;>rfl
noncomputable def vd(K:PySem.W.Frag):V->Option Int->Option Int->Hp->VK->Prop:=fun x lo hi H Q=>∃a xs,x=.ref a/\SqL K H a xs/\∀p,H p=none->Q (.ref p) (upd H p (.lst (ln xs lo hi)))
theorem se:SlR X (vd X.K):=by
 intro pins s σ H x v vl vu lo hi sl Q I rx hs pl pu h;obtain⟨a,xs,rfl,hx,q⟩:=h;cases rx;obtain⟨its,r,ht,hz⟩:=I.list hx;have hlen:=r.length;refine⟨"list",_,slot_list_getitem.lookup,ht.isList.typeIs,?_⟩;refine wpAny_getItem_list_slice ht.isList hs pl pu .none (by simp) ?_ (by rw[Ya]<;>lia)
 rw[jA,← hlen];refine⟨.ref s.heap.objs.size,_,I.laid (t':=s.toks) (o:=.lst (ln xs lo hi)) (fun b ob q=>Heap.get?_push_of_some _ q) (Xa _) ?_,rfl,q _ (I.hok.fresh (Xa _))⟩;exact⟨Vb (il xs lo hi) hz,_,0,(r.drop (HT.sIx xs.length 0 lo)).take (HT.sIx xs.length xs.length hi-HT.sIx xs.length 0 lo),Heap.get?_push_size _ rfl⟩
noncomputable def fR:V->Bool
 | .non=>true
 | .bl _=>true
 | .int _=>true
 | .str _=>true
 | _=>false
noncomputable def eqV:V->V->Bool
 | .non,.non=>true
 | .bl a,.bl b=>a == b
 | .bl a,.int b=>(if a then 1 else 0) == b
 | .int a,.bl b=>a == (if b then 1 else 0)
 | .int a,.int b=>a == b
 | .str a,.str b=>a == b
 | _,_=>false
theorem ve{A:Around}{s:Shared}{y x:V}{u v:Value}(ry:RelV y u)(rx:RelV x v)(fy:fR y=true)(fx:fR x=true):SeqAt.EqAt A s u v (eqV y x):=by
 cases y with
 | non =>
  cases ry;cases x with
  | non=>cases rx;exact SeqAt.EqAt.same _
  | bl b=>cases rx;exact SeqAt.EqAt.none_bool b
  | int b=>obtain⟨t,rfl⟩:=rx;exact SeqAt.EqAt.none_int b t
  | str b=>obtain⟨t,rfl⟩:=rx;exact SeqAt.EqAt.none_str b t
  | _=>exact absurd (show false=true from fx) Qa
 | bl a =>
  cases ry;cases x with
  | non=>cases rx;exact SeqAt.EqAt.bool_none a
  | bl b=>cases rx;exact SeqAt.EqAt.bool_bool a b
  | int b=>obtain⟨t,rfl⟩:=rx;exact SeqAt.EqAt.bool_int a b t
  | str b=>obtain⟨t,rfl⟩:=rx;exact SeqAt.EqAt.bool_str a b t
  | _=>exact absurd (show false=true from fx) Qa
 | int a =>
  obtain⟨t',rfl⟩:=ry;cases x with
  | non=>cases rx;exact SeqAt.EqAt.int_none a t'
  | bl b=>cases rx;exact SeqAt.EqAt.int_bool a t' b
  | int b=>obtain⟨t,rfl⟩:=rx;exact SeqAt.EqAt.int_int a t' b t
  | str b=>obtain⟨t,rfl⟩:=rx;exact SeqAt.EqAt.int_str a t' b t
  | _=>exact absurd (show false=true from fx) Qa
 | str a =>
  obtain⟨t',rfl⟩:=ry;cases x with
  | non=>cases rx;exact SeqAt.EqAt.str_none a t'
  | bl b=>cases rx;exact SeqAt.EqAt.str_bool a t' b
  | int b=>obtain⟨t,rfl⟩:=rx;exact SeqAt.EqAt.str_int a t' b t
  | str b=>obtain⟨t,rfl⟩:=rx;exact SeqAt.EqAt.str_str a t' b t
  | _=>exact absurd (show false=true from fx) Qa
 | _=>exact absurd (show false=true from fy) Qa
noncomputable def eqU(x:V)(u:Value):Bool:=match u with
 | .none=>eqV .non x
 | .bool b=>eqV (.bl b) x
 | .int i _=>eqV (.int i) x
 | .str z _=>eqV (.str z) x
 | _=>false
theorem pT{x y:V}{u:Value}(r:RelV y u)(f:fR y=true):eqU x u=eqV y x:=by
 cases y with
 | non=>cases r;rfl
 | bl b=>cases r;rfl
 | int i=>obtain⟨t,rfl⟩:=r;rfl
 | str z=>obtain⟨t,rfl⟩:=r;rfl
 | _=>exact absurd (show false=true from f) Qa
theorem ku{x:V}:∀{xs:List V}{us:List Value},Vals xs us->xs.all fR=true->us.any (eqU x)=xs.any fun y=>eqV y x
 | _,_,.nil,_=>rfl
 | y::xs,u::us,.cons r t,f=>by
  rw[Zk,Vc]at f;rw[List.any_cons,List.any_cons,pT r f.1,ku t f.2]
theorem i3{A:Around}{s:Shared}{x:V}{v:Value}(rx:RelV x v)(fx:fR x=true):∀{xs:List V}{us:List Value},Vals xs us->xs.all fR=true->∀u∈us,SeqAt.EqAt A s u v (eqU x u)
 | _,_,.nil,_=>fun u hu=>by cases hu
 | y::xs,u::us,.cons r t,f=>fun u' hu=>by
  rw[Zk,Vc]at f;rcases Wg.mp hu with rfl|hu
  ·rw[pT r f.1];exact ve r rx f.1 fx
  ·exact i3 rx fx t f.2 u' hu
noncomputable def inV(x:V)(xs:List V):Bool:=xs.any fun y=>eqV y x
noncomputable def rIn(K:PySem.W.Frag)(neg:Bool):R2:=fun x y H Q=>∃p xs,y=.ref p/\(SqL K H p xs∨SqT K H p xs)/\fR x=true/\xs.all fR=true/\Q (.bl (if neg then !inV x xs else inV x xs)) H
theorem oP:OpR X (compareOp .In) (rIn X.K false):=by
 intro pins s σ H x y v u Q I rx ry h;obtain⟨p,xs,rfl,hq,fx,fs,q⟩:=h;cases ry;rcases hq with hq|hq
 ·obtain⟨its,r,pl,hz⟩:=I.list hq;refine SeqAt.in_listAt (eqU x) pl.isList (fun w hw=>i3 rx fx r fs w (by simpa using hw)) ⟨.bl _,H,I,rfl,?_⟩
  rw[show its.toArray.any (eqU x)=its.any (eqU x) by simp,ku r fs]
  exact q
 ·obtain⟨its,r,pl,hz⟩:=I.tuple hq;refine SeqAt.in_tupleAt (eqU x) pl (fun w hw=>i3 rx fx r fs w (by simpa using hw)) ⟨.bl _,H,I,rfl,?_⟩
  rw[show its.toArray.any (eqU x)=its.any (eqU x) by simp,ku r fs]
  exact q
theorem kv:CallR X (.builtin "len") (fun xs H Q=>∃p ys,xs=[.ref p]/\(SqL X.K H p ys∨SqT X.K H p ys)/\Q (.int ys.length) H):=by
 intro pins s σ H xs us Q I r h;obtain⟨p,ys,rfl,hq,q⟩:=h;obtain⟨u,rfl,rx⟩:=vals1 r;cases rx;have hn:=gU;rcases hq with hq|hq
 ·obtain⟨its,r',pl,hz⟩:=I.list hq;have hlen:=r'.length;exact Calls.call_len_list pl.isList (by simp only[Ya]<;>lia) ⟨.int ys.length,H,I.tok _,⟨s.toks+1,by rw[Ya,hlen]⟩,q⟩
 ·obtain⟨its,r',pl,hz⟩:=I.tuple hq;have hlen:=r'.length;exact len_tuple pl (by simp only[Ya]<;>lia) ⟨.int ys.length,H,I.tok _,⟨s.toks+1,by rw[Ya,hlen]⟩,q⟩
theorem kx:CallR X (.builtin "len") (fun xs H Q=>∃z,xs=[.str z]/\z.length<=sizeLine/\Q (.int z.length) H):=by
 intro pins s σ H xs us Q I r h;obtain⟨z,rfl,hz,q⟩:=h;obtain⟨u,rfl,t,rfl⟩:=vals1 r;have hn:=gU;exact len_str (by lia) ⟨.int z.length,H,I.tok _,⟨_,rfl⟩,q⟩
theorem CallR.or{f:Value}{r r':List V->Hp->VK->Prop}(h:CallR X f r)(h':CallR X f r'):CallR X f (fun xs H Q=>r xs H Q∨r' xs H Q):=by
 intro pins s σ H xs us Q I rs q;rcases q with q|q
 ·exact h pins s σ H xs us Q I rs q
 ·exact h' pins s σ H xs us Q I rs q
theorem ky:CallR X (.type "list") (fun xs H Q=>∃p ys,xs=[.ref p]/\(SqL X.K H p ys∨SqT X.K H p ys)/\∀l,H l=none->Q (.ref l) (upd H l (.lst ys))):=by
 intro pins s σ H xs us Q I r h;obtain⟨p,ys,rfl,hq,q⟩:=h;obtain⟨u,rfl,rx⟩:=vals1 r;cases rx;have fin:∀(its:List Value),Vals ys its->ys.length<=sizeLine->∀(h':Heap)(c':Nat),(∀b o',s.heap.get? b=some o'->h'.get? b=some o') ->
   h'.get? s.heap.objs.size=some { cls:=.type "list",dict:=none,data:=.seq its.toArray c',slots:=#[] }->EP X pins σ Q (.ref s.heap.objs.size) { s with heap:=h' }:=fun its r' hz h' c' kp e =>
  ⟨.ref s.heap.objs.size,_,I.laid (t':=s.toks) kp (Xa _) (show ObjOk X.prog X.w _ h' _ (.lst ys) from⟨hz,its,c',r',e⟩),rfl,q _ (I.hok.fresh (Xa _))⟩
 rcases hq with hq|hq
 ·obtain⟨its,r',pl,hz⟩:=I.list hq;have hlen:=r'.length;obtain⟨o,ho,hc,n,hd⟩:=pl.isList;exact call_list_seq p (.inl rfl) ho hc hd (fun h' c' kp e=>fin its r' hz h' c' kp e) (by simp only[Ya]<;>lia)
 ·obtain⟨its,r',pl,hz⟩:=I.tuple hq;have hlen:=r'.length;obtain⟨o,ho,hc,n,hd⟩:=pl;exact call_list_seq p (.inr rfl) ho hc hd (fun h' c' kp e=>fin its r' hz h' c' kp e) (by simp only[Ya]<;>lia)
theorem jB:CallR X (.type "tuple") (fun xs H Q=>∃p ys,xs=[.ref p]/\((SqL X.K H p ys/\∀l,H l=none->Q (.ref l) (upd H l (.tup ys)))∨(SqT X.K H p ys/\Q (.ref p) H))):=by
 intro pins s σ H xs us Q I r h;obtain⟨p,ys,rfl,h⟩:=h;obtain⟨u,rfl,rx⟩:=vals1 r;cases rx;rcases h with⟨hq,q⟩|⟨hq,q⟩
 ·obtain⟨its,r',pl,hz⟩:=I.list hq;have hlen:=r'.length;refine call_tuple_list pl.isList (fun h' kp=>?_) (by simp only[Ya]<;>lia)
  have I1:Inv X pins σ H { s with heap:=h' }:=I.kept (t':=s.toks) kp;have I2:Inv X pins σ (upd H h'.objs.size (.tup ys)) { s with heap:=h'.push { cls:=.type "tuple",data:=.seq its.toArray } } :=
   I1.laid (t':=s.toks) (fun b o e=>Heap.get?_push_of_some _ e) (Xa _) (show ObjOk X.prog X.w _ _ _ (.tup ys) from⟨hz,its,r',IsTup.new _ _⟩)
  exact⟨.ref h'.objs.size,_,I2,rfl,q _ (I1.hok.fresh (Xa _))⟩
 ·obtain⟨its,r',pl,hz⟩:=I.tuple hq;exact call_tuple_same pl ⟨.ref p,H,I,rfl,q⟩
noncomputable def tyV(K:PySem.W.Frag)(T:String)(x:V)(H:Hp):Prop:=match x with
 | .str _=>T="str"
 | .int _=>T="int"
 | .ref p=>(T="list"/\∃xs,SqL K H p xs)∨(T="tuple"/\∃o,K.lookup p=some o/\o.cls=.type "tuple"/\o.dict=none) ∨
   (T="dict"/\((∃kvs,H p=some (.dK kvs))∨∃ep kvs,H p=some (.dT ep kvs)))∨(T="set"/\∃S n,H p=some (.set S n))
 | _=>False
theorem vf{pins:List (Addr×Obj)}{σ:St}{H:Hp}{s:Shared}{T:String}{x:V}{v:Value}(I:Inv X pins σ H s)(r:RelV x v)(ty:tyV X.K T x H) :
  s.TypeIs v T/\∀a,v=.ref a->∃ob,s.heap.get? a=some ob/\ob.dict=none:=by
 cases x with
 | str z =>
  obtain⟨t,rfl⟩:=r;cases (show T="str" from ty);exact⟨typeIs_str s z t,fun _ e=>nomatch e⟩
 | int i =>
  obtain⟨t,rfl⟩:=r;cases (show T="int" from ty);exact⟨typeIs_int s i t,fun _ e=>nomatch e⟩
 | ref p =>
  cases r;rcases ty with⟨rfl,xs,hq⟩|⟨rfl,o,hk,hc,hd⟩|⟨rfl,hk⟩|⟨rfl,S,n,hk⟩
  ·obtain⟨its,_,pl,_⟩:=I.list hq;refine⟨pl.isList.typeIs,fun a e=>?_⟩;cases e;obtain⟨o,n,e,c,hd,_⟩:=pl;exact⟨o,e,hd⟩
  ·refine⟨⟨o,I.kIn p o hk,hc⟩,fun a e=>?_⟩;cases e;exact⟨o,I.kIn _ o hk,hd⟩
  ·have z:∃o,s.heap.get? p=some o/\o.ExactDict:=by
    rcases hk with⟨kvs,hk⟩|⟨ep,kvs,hk⟩
    ·obtain⟨_,_,_,_,o,_,_,e,ex,_⟩:=I.hok p _ hk;exact⟨o,e,ex⟩
    ·obtain⟨_,_,_,_,_,o,_,e,ex,_⟩:=I.hok p _ hk;exact⟨o,e,ex⟩
   obtain⟨o,e,ex⟩:=z;refine⟨⟨o,e,ex.1⟩,fun a e2=>?_⟩;cases e2;exact⟨o,e,ex.2.1⟩
  ·obtain⟨o,_,_,_,e,ex,_⟩:=I.hok p _ hk;refine⟨⟨o,e,ex.1⟩,fun a e2=>?_⟩;cases e2;exact⟨o,e,ex.2.1⟩
 | _=>exact False.elim ty
noncomputable def tBM(K:PySem.W.Frag)(T:String)(r:V->List V->Hp->VK->Prop)(to:TE)(t:TA):TE:=fun σ H Q=>to σ H fun x H1=>tyV K T x H1/\t σ H1 fun xs H2=>r x xs H2 Q
variable {o e:Expr}{es:List Expr}{to:TE}{t:TA}{name:Str}{apos cpos:Pos}{T id:String}{r:V->List V->Hp->VK->Prop}
theorem im(pa:PlainAttrs T)(slot:Slot T name id)(hty:typeOf (.builtin id)=pure (.type "method_descriptor"))(hm:MtR X id r)(ho:PE X o to)(ha:PA X (e::es) t)
  (hbase:attributeBase o name X.env (eval o X.env)=eval o X.env:=by rfl)
  (hfew:((backTo cpos (starEach (e::es) X.env)).all (fun x=>!x.1)&&(backToKw cpos (keywordEach [] X.env)).all (fun x=>x.1.isSome)
   && decide ((e::es).length+([]:List Keyword).length+(if ([]:List Keyword).isEmpty then 0 else 1)<30))=true:=by rfl)
  (hline:(apos.endLine == cpos.line)=true:=by rfl) (hs:starEach (e::es) X.env=(false,eval e X.env)::starEach es X.env:=by rfl) (hplain:(backTo cpos (starEach es X.env)).any (·.1)=false:=by rfl) :
  PE X (.Call (.Attribute o name apos) (e::es) [] cpos) (tBM X.K T r to t):=by
 intro pins s σ H Q I h;refine wpAny_Call_method_late hbase hfew hline rfl (thn (ho pins s σ H _ I h) fun v s1 zz9=>?_);obtain⟨x,H1,I1,r1,ty,q1⟩:=zz9;obtain⟨h1,h2⟩:=vf I1 r1 ty;refine⟨T,id,pa,slot,hty,h1,h2,?_⟩;have hA:=ha cpos pins s1 σ H1 _ I1 q1;rw[hs]at hA ⊢;refine Calls.callWith_builtin (by show(false||(backTo cpos (starEach es X.env)).any (·.1))=false;rw[hplain]<;>rfl) (Calls.evalArgs_plain ?_)
 exact thn hA fun us s2 ⟨vs,H2,I2,r2,q2⟩=>hm pins s2 σ H2 x vs v us Q I2 r1 r2 q2
end
end L2
namespace L2
open PySem PySem.Spec PyProof.Rows
noncomputable def MtM(X:Cx)(id:String)(r:V->List V->Hp->VK->Prop):Prop :=
 ∀(pins:List (Addr×Obj))(s:Shared)(σ:St)(H:Hp)(x:V)(xs:List V)(v:Value)(us:List Value)(Q:VK),Inv X pins σ H s->RelV x v->Vals xs us->r x xs H Q ->
  wpAny (model X.prog X.w) X.A (call (.builtin id) (v::us)) (EP X pins σ Q) X.xe s
theorem Vals.one:∀{x:V}{us:List Value},Vals [x] us->∃u,us=[u]/\RelV x u
 | _,_,.cons r .nil=>⟨_,rfl,r⟩
theorem Vals.eraseIdx:∀{xs:List V}{us:List Value}(i:Nat),Vals xs us->Vals (xs.eraseIdx i) (us.eraseIdx i)
 | _,_,_,.nil=>.nil
 | _,_,0,.cons _ t=>t
 | _,_,i+1,.cons r t=>.cons r (Vals.eraseIdx i t)
theorem Vals.reverse{xs:List V}{us:List Value}(h:Vals xs us):Vals xs.reverse us.reverse:=by
 induction h with
 | nil=>exact .nil
 | cons r t ih=>rw[List.reverse_cons,List.reverse_cons];exact Vals.append ih (.cons r .nil)
theorem jQ{α:Type}:∀(l:List α)(i:Nat),(l.eraseIdx i).length<=l.length
 | [],_=>Xa _
 | _::_,0=>Nat.le_succ _
 | _::r,i+1=>Nat.succ_le_succ (jQ r i)
section
variable {X:Cx}{pins:List (Addr×Obj)}{σ:St}{H:Hp}{s:Shared}{l b:Addr}{xs ys zs:List V}
theorem Inv.lset{its its':List Value}{n:Nat}{f:Array Value->Array Value}{t':Nat}(I:Inv X pins σ H s)(hH:H l=some (.lst xs))
  (e:s.heap.get? l=some { cls:=.type "list",data:=.seq its.toArray n })(hf:f its.toArray=its'.toArray)(hv:Vals ys its')(hz:ys.length<=sizeLine) :
  Inv X pins σ (upd H l (.lst ys)) { s with heap:=s.heap.update l (Obj.mapSeq f),toks:=t' }:=by
 have q:=PySem.IsL.update e f;rw[hf]at q;refine I.write (x:=l) (e:=l) (by rw[hH];exact trivial) (.inl rfl) (fun b' u hb hu=>(Heap.get?_update_other s.heap (Obj.mapSeq f) (Ne.symm hb)).trans hu) ⟨_,q⟩ ?_
 exact⟨hz,its',_,hv,q⟩
theorem Inv.lnew{its:List Value}{t':Nat}(I:Inv X pins σ H s)(hv:Vals ys its)(hz:ys.length<=sizeLine) :
  Inv X pins σ (upd H s.heap.objs.size (.lst ys)) { s with heap:=s.heap.push { cls:=.type "list",data:=.seq its.toArray },toks:=t' } :=
 I.laid (fun _ _ q=>Heap.get?_push_of_some _ q) (Xa _) ⟨hz,its,0,hv,Heap.get?_push_size _ rfl⟩
theorem Inv.fresh(I:Inv X pins σ H s):H s.heap.objs.size=none:=I.hok.fresh (Xa _)
theorem Inv.lstM(I:Inv X pins σ H s)(hH:H l=some (.lst xs)):xs.length<=sizeLine/\∃(its:List Value)(n:Nat),Vals xs its/\xs.length=its.length/\s.heap.get? l=some { cls:=.type "list",data:=.seq its.toArray n }:=by
 obtain⟨z,its,n,r,e⟩:=I.hok l _ hH;exact⟨z,its,n,r,r.length,e⟩
theorem lq{n:Nat}(h:n<=sizeLine):Builtin.List.listTooLong n=false:=by
 unfold Builtin.List.listTooLong;exact decide_eq_false (by lia)
end
section
variable {X:Cx}
noncomputable def nL:V->List V->Hp->VK->Prop:=fun x vs H Q=>∃l xs y,x=.ref l/\vs=[y]/\H l=some (.lst xs)/\xs.length<sizeLine/\Q .non (upd H l (.lst (xs++[y])))
theorem gX:MtM X "list.append" nL:=by
 intro pins s σ H x vs v us Q I rx rv h;obtain⟨l,xs,y,rfl,rfl,hH,hz,q⟩:=h;cases rx;obtain⟨u,rfl,ru⟩:=rv.one;obtain⟨z,its,n,r,hl,e⟩:=I.lstM hH;refine call_meets F.slot_list_append ⟨_,e,rfl⟩ F.entry_list_append (F.args_list_append_2 _ _) (PySem.list_append l its.toArray n u (by rw[Ya];lia)) ⟨e,?_⟩
 refine⟨.non,_,I.lset (its':=its++[u]) hH e (by simp) (r.append (.cons ru .nil)) ?_,rfl,q⟩
 rw[Wb,List.length_singleton];lia
noncomputable def nM:V->List V->Hp->VK->Prop:=fun x vs H Q=>∃l b xs zs,x=.ref l/\vs=[.ref b]/\H l=some (.lst xs)/\H b=some (.lst zs)/\xs.length+zs.length<=sizeLine/\Q .non (upd H l (.lst (xs++zs)))
theorem oQ:MtM X "list.extend" nM:=by
 intro pins s σ H x vs v us Q I rx rv h;obtain⟨l,b,xs,zs,rfl,rfl,hH,hB,hz,q⟩:=h;cases rx;obtain⟨u,rfl,ru⟩:=rv.one;cases ru;obtain⟨z,its,n,r,hl,e⟩:=I.lstM hH;obtain⟨z2,its2,n2,r2,hl2,e2⟩:=I.lstM hB;have hsz:its.toArray.size+its2.toArray.size<=sizeLine:=by rw[Ya,Ya];lia
 have hlong:¬ (!its.toArray.isEmpty&&Builtin.List.listTooLong (its.toArray.size+its2.toArray.size))=true:=by
  rw[lq hsz,Bool.and_false];exact Qa
 refine call_meets F.slot_list_extend ⟨_,e,rfl⟩ F.entry_list_extend (F.args_list_extend_2 _ _)
  (AutoSeq1.list_extend_list_list_0 l its.toArray n b its2.toArray n2 hlong (by rw[Ya];lia) (by lia)) ⟨e,e2,?_⟩
 refine⟨.non,_,I.lset (its':=its++its2) hH e (by simp) (r.append r2) ?_,rfl,q⟩
 rw[Wb];lia
noncomputable def pU:V->List V->Hp->VK->Prop:=fun x vs H Q=>∃l xs i k y,x=.ref l/\vs=[.int i]/\H l=some (.lst xs)/\-(2 ^ 63)<=i/\i<2 ^ 63/\seqIndex? i xs.length=some k/\xs[k]?=some y/\Q y (upd H l (.lst (xs.eraseIdx k)))
theorem pV:MtM X "list.pop" pU:=by
 intro pins s σ H x vs v us Q I rx rv h;obtain⟨l,xs,i,k,y,rfl,rfl,hH,h1,h2,hk,hy,q⟩:=h;cases rx;obtain⟨u,rfl,ru⟩:=rv.one;obtain⟨t,rfl⟩:=ru;obtain⟨z,its,n,r,hl,e⟩:=I.lstM hH;obtain⟨w,hw,rw'⟩:=r.get hy;refine call_meets F.slot_list_pop ⟨_,e,rfl⟩ F.entry_list_pop (F.args_list_pop_2 _ _)
  (MeetsSeq.list_pop_at l its.toArray n i t k w (fitsIndex_both h1 h2) (by rw[Ya,← hl];exact hk) (by rw[← Array.getElem?_toList];exact hw) (by rw[Ya];lia)) ⟨e,?_⟩
 refine⟨y,_,I.lset (its':=its.eraseIdx k) hH e ?_ (r.eraseIdx k) ?_,rw',q⟩
 ·show its.toArray.eraseIdxIfInBounds k=(its.eraseIdx k).toArray;rw[List.eraseIdxIfInBounds_toArray]
 ·have:=jQ xs k;lia
noncomputable def vg:R2:=fun x y H Q=>∃l b xs zs,x=.ref l/\y=.ref b/\H l=some (.lst xs)/\H b=some (.lst zs)/\xs.length+zs.length<=sizeLine/\∀p,H p=none->Q (.ref p) (upd H p (.lst (xs++zs)))
theorem op_cat:OpR X (binaryOp .Add) vg:=by
 intro pins s σ H x y v u Q I rx ry h;obtain⟨l,b,xs,zs,rfl,rfl,hH,hB,hz,q⟩:=h;cases rx;cases ry;obtain⟨z,its,n,r,hl,e⟩:=I.lstM hH;obtain⟨z2,its2,n2,r2,hl2,e2⟩:=I.lstM hB;refine PySem.P.add_list e e2 ?_ (by rw[Ya,Ya];lia)
 have ea:its.toArray++its2.toArray=(its++its2).toArray:=by simp
 rw[ea];exact⟨.ref _,_,I.lnew (t':=s.toks) (r.append r2) (by rw[Wb];lia),rfl,q _ I.fresh⟩
end
end L2
namespace Att
open PySem PySem.W PySem.Calls PyProof.Rows
theorem iC{P:Params}{h:Heap}:∀(ns:List Int)(vs:List Value),WellAll P h vs (ns.map WData.int)->IntsAre vs ns:=by
 intro ns;induction ns with
 | nil =>
  intro vs w;rw[List.map_nil]at w;cases w;exact .nil
 | cons n ns ih =>
  intro vs w;rw[List.map_cons]at w;cases w with
  | cons a b =>
   cases a;exact .cons _ _ (ih _ b)
theorem oR{l:OpenLaw}{n:Nat}(hn:l.most=some n){P:Params}{h:Heap}{args:List WData}{vals:List Value}
  (hpre:l.row.toRowW.claim.pre args=true)(hwl:WellAll P h vals args) :
  ∃a vs ns,vals=[Value.ref a]/\args=[WData.list (ns.map WData.int)]/\h.get? a=some { cls:=.type "list",data:=.seq vs.toArray }/\IntsAre vs ns/\ns.length<=n:=by
 have hsh:WShape.hasAll [] args [.list .int]=true:=(pre_splitW hpre).1;have hc:l.pre.holds [] { args:=args }=true:=(pre_splitW hpre).2;obtain⟨d,r,rfl,h1,h2⟩:=hasAllW_cons hsh;obtain rfl:=hasAllW_nil h2;obtain⟨xs,rfl,h3⟩:=hasW_list h1;obtain⟨ns,rfl⟩:=items_int h3;have hlen:ns.length<=n:=by
  unfold OpenLaw.pre at hc;have h4:(WTm.not (.lt (.lit (.int (n:Int))) (.len (.arg 0)))).holds [] { args:=[.list (ns.map .int)] }=true:=by
   have h4:=(holds_andW hc).1;rw[hn]at h4;exact h4
  have h5:=condW_of h4 (w_not (w_lt w_lit (w_len_list (w_arg rfl))));rw[Xb]at h5;refine Nat.le_of_not_lt fun q=>?_;have q':(n:Int)<((ns.length:Nat):Int):=by lia
  first
   | (rw[decide_eq_true q']at h5;exact absurd h5 (by decide))
   | (simp at h5;lia)
 cases hwl with
 | cons w1 w2 =>
  cases w2;cases w1 with
  | list ho hall=>exact⟨_,_,ns,rfl,rfl,ho,iC ns _ hall,hlen⟩
theorem oS(l:OpenLaw)(args:List WData):l.row.toRowW.claim.post args (.bool true) args=true :=
 postW_of (r:=l.row.toRowW) (X:=(true == true))
  (show WShape.has [] (.bool true) .bool=true by first|rfl|decide|simp[WShape.has,WShape.arms,WShape.armsAll])
  (show(WTm.eq .res (.lit (.bool true))).value [] { args:=args,res:=some (.bool true),after:=args }=some (.bool (true == true)) from w_eq_bool (w_res rfl) w_lit) rfl
theorem attach_call{l:OpenLaw}{n:Nat}{q:Program}{loose:List Str}{XP:(Str->Option Value)->Heap->Prop}{YP:World->Heap->Prop}{d:DefRec}
  (hn:l.most=some n)(hdf:d.params.defaults=[])
  (call:∀(w:World)(s₀ s₁:Shared)(mg mb:Str->Option Value)(fa:Addr)(o:Obj)(pm cd doc:Value)(a:Addr)(vs:List Value)(ns:List Int),
   Ground q loose [] XP w s₀ mg mb s₁.heap->YP w s₁.heap ->
   s₁.heap.get? fa=some o->o.data=.func (docDef d.name d.params d.body d.scope pm cd doc)->s₁.heap.CodeRec cd d.name->mg d.name=some (.ref fa) ->
   s₁.heap.get? a=some { cls:=.type "list",data:=.seq vs.toArray }->IntsAre vs ns->ns.length<=n->s₁.gens=#[] ->
   codeAny (model l.prog w) callerA (.call (.ref fa) ⟨[.ref a],[]⟩) (fun r s'=>r=.ok (.ret (.bool true))/\OldK s₁.heap s'.heap/\s'.os=s₁.os/\AllBare s'.gens) s₁) :
  WalkO q loose XP YP l.row.toRowW d [] (fun f vs=>PySem.call f vs):=by
 intro w s₀ s₁ mg mb G Y fa o pm cd doc dV kV ho hd hcd hD hmg hg args vals as hpre hlay hrd hwl hlo;obtain rfl:dV=.none:=Dflts.none hD hdf;obtain rfl:kV=.none:=Dflts.noKw hD;obtain⟨a,vs,ns,rfl,rfl,hobj,hints,hlen⟩:=oR hn hpre hwl;refine enter_call (codeAny_mono (call w s₀ s₁ mg mb fa o pm cd doc a vs ns G Y ho (fd_plain hd) hcd hmg hobj hints hlen hg) fun r s' hq=>?_);obtain⟨rfl,h2,h3,h4⟩:=hq;exact⟨.inl ⟨.bool true,.bool true,[],rfl,fun _=>rfl,.bool true,oS l _,fun _=>⟨List.Pairwise.nil,fun _ hm=>(nomatch hm)⟩⟩,h2,h3,h4⟩
end Att
namespace L2
open PySem PySem.Spec PyProof.Rows
theorem jR:∀{vs:List Value}{ns:List Int},IntsAre vs ns->Vals (ns.map V.int) vs
 | _,_,.nil=>.nil
 | _,_,.cons n t h=>.cons ⟨t,rfl⟩ (jR h)
noncomputable def vh(H:Hp):Prop:=∀b,H b=none∨∃o xs,H b=some (.frz o (.lst xs))
theorem pW{P:Program}{w:World}{K:PySem.W.Frag}{mg mb:Str->Option Value}{CX:CXT}{k:Nat}{fa a:Addr}{fd:FuncData}{x:Str}{sp:Sp}{s₁:Shared}{vs:List Value}{ns:List Int}
  (KX:K.In s₁.heap)(hns:s₁.heap.Ns mainGlobals mg)(hb:s₁.heap.Ns builtinsNs mb)(hbb:∀x:Str,x≠"__name__"->mb x=bootBuiltins x)(hlim:s₁.heap.NoLimit)(hg:s₁.gens=#[])
  (ha:s₁.heap.get? a=some { cls:=.type "list",data:=.seq vs.toArray }) (hi:IntsAre vs ns) (hl:ns.length<=sizeLine) (hr:Room k callerA)
  (F:∀base:Heap,K.In base->base.Ns mainGlobals mg->FnOk P w K mg base CX k fa fd [x] sp) (hbind:∀(s:Shared)(u:Value),BindsTo s fd ⟨[u],[]⟩ [(x,u)])
  (hsp:∀H:Hp,vh H->SqL K H a (ns.map V.int)->sp [.ref a] H (fun v _=>v=.bl true) fun _ _ _=>False)
  (hCX:∀H e s',CX [] H s₁ (fun _ _ _=>False) e s'->False) :
  codeAny (model P w) callerA (.call (.ref fa) ⟨[.ref a],[]⟩) (fun r s'=>r=.ok (.ret (.bool true))/\OldK s₁.heap s'.heap/\s'.os=s₁.os/\AllBare s'.gens) s₁:=by
 have rv:=jR hi;have sy:=hi.length;have core:∀H:Hp,vh H->SqL K H a (ns.map V.int)->HOk P w H s₁.heap->(∀b,H b≠none->b=a)->(H a≠none->K.lookup a=none) ->
   codeAny (model P w) callerA (.call (.ref fa) ⟨[.ref a],[]⟩) (fun r s'=>r=.ok (.ret (.bool true))/\OldK s₁.heap s'.heap/\s'.os=s₁.os/\AllBare s'.gens) s₁:=by
  intro H hO hS hok hA hK;have base_of:∀{b:Addr}{o:Obj},s₁.heap.get? b=some o->H b=none->(ki s₁.heap H).get? b=some o:=fun e n=>pC e n;have noA:∀{b:Addr}{o:Obj}{es:Array DictEntry}{ep:Nat},s₁.heap.get? b=some o->o.data=.dict es ep->H b=none:=fun {b o es ep} e d=>by
   cases q:H b with
   | none=>rfl
   | some u =>
    have e':b=a:=hA b (by rw[q];simp)
    subst e';rw[ha]at e;cases e;have d':Data.seq vs.toArray _=Data.dict es ep:=d;cases d'
  have nsK:∀{b:Addr}{m:Str->Option Value},s₁.heap.Ns b m->(ki s₁.heap H).Ns b m:=fun {b m} ⟨o,es,ep,e,d,r⟩=>⟨o,es,ep,base_of e (noA e d),d,r⟩
  have hKb:K.In (ki s₁.heap H):=fun b o e=>base_of (KX b o e) (by
   cases q:H b with
   | none=>rfl
   | some u =>
    have e':b=a:=hA b (by rw[q];simp)
    subst e'
    rw[hK (by rw[q];simp)]at e;cases e)
  have hM:Mod K mg (ki s₁.heap H):=⟨hKb,nsK hns,⟨mb,nsK hb,hbb⟩,let ⟨mc,h1,h2⟩:=hlim;⟨mc,nsK h1,h2⟩⟩;have e0:Env0 P w K mg (ki s₁.heap H) callerA [] s₁ H:=⟨rfl,hM,fun b o e=>rO e,Nat.le_of_eq (oG _ _),trivial,fun b hb=>absurd (show b∈([]:List Addr) from hb) (by simp),hok,.of_eq hg⟩
  refine codeAny_mono ((F _ hKb (nsK hns)).run callerA [] s₁ H ⟨[.ref a],[]⟩ [.ref a] [.ref a] _ _ hr e0 (hbind s₁ (.ref a)) (.cons rfl .nil) (hsp H hO hS)) fun r s' h=>?_;cases r with
  | error e=>exact(hCX H e s' h).elim
  | ok fl =>
   cases fl with
   | next=>exact False.elim h
   | brk=>exact False.elim h
   | cont=>exact False.elim h
   | ret u =>
    obtain⟨v,H',os,bare,un,hok',r',q⟩:=h;have q':v=.bl true:=q;subst q';obtain rfl:u=Value.bool true:=r';refine⟨rfl,OldK.of_keep fun b o e=>?_,os,bare⟩;cases q:H b with
    | none=>exact un.keep b o e q (by intro z;exact absurd (show b∈([]:List Addr) from z) (by simp)) (by simp)
    | some u =>
     rcases hO b with z|⟨ob,xs,z⟩
     ·rw[q]at z;cases z
     ·have z2:=un.frzs b ob _ z;obtain⟨e1,_⟩:=hok b _ z;obtain⟨e2,_⟩:=hok' b _ z2;rw[e]at e1;cases e1;exact e2
 cases hk:K.lookup a with
 | some o =>
  have e:=KX a o hk;rw[ha]at e;cases e;refine core (fun _=>none) (fun _=>.inl rfl) (.inr ⟨_,vs.toArray,_,hk,rfl,rfl,rfl,by rw[Ya,sy];exact hl,by simpa using rv⟩) (fun b u z=>by have z':(none:Option HO)=some u:=z;cases z') (fun b z=>absurd rfl z) fun z=>absurd rfl z
 | none =>
  refine core (fun b=>if b=a then some (.frz { cls:=.type "list",data:=.seq vs.toArray } (.lst (ns.map V.int))) else none) (fun b=>?_) (.inl (.inr ⟨{ cls:=.type "list",data:=.seq vs.toArray },if_pos rfl⟩)) (fun b u z=>?_) (fun b z=>?_) fun _=>hk
  ·by_cases hb:b=a
   ·exact .inr ⟨_,_,if_pos hb⟩
   ·exact .inl (if_neg hb)
  ·by_cases hb:b=a
   ·have z':=(if_pos hb).symm.trans z;cases z';subst hb;exact⟨ha,by rw[Xb];exact hl,vs,_,rv,ha⟩
   ·have z':=(if_neg hb).symm.trans z;cases z'
  ·by_cases hb:b=a
   ·exact hb
   ·exact absurd (if_neg hb) z
theorem walk_of{l:PySem.W.OpenLaw}{n k:Nat}{q:Program}{loose:List Str}{XP:(Str->Option Value)->Heap->Prop}{YP:World->Heap->Prop}{d:DefRec}{K:Params->PySem.W.Frag}{CX:World->CXT}{sp:World->Sp}{x:Str}
  (hn:l.most=some n)(hn2:n<=sizeLine)(hdf:d.params.defaults=[])(hr:Room k callerA)
  (hY:∀(w:World)(h:Heap),YP w h->(K w.params).In h)
  (F:∀(w:World)(mg:Str->Option Value)(fa:Addr)(h:Heap),(K w.params).In h->h.Ns mainGlobals mg->mg d.name=some (.ref fa) ->
   ∃fd:FuncData,(∀(s:Shared)(u:Value),BindsTo s fd ⟨[u],[]⟩ [(x,u)]) /\
    ∀base:Heap,(K w.params).In base->base.Ns mainGlobals mg->FnOk l.prog w (K w.params) mg base (CX w) k fa fd [x] (sp w))
  (hsp:∀(w:World)(H:Hp)(a:Addr)(ns:List Int),ns.length<=n->vh H->SqL (K w.params) H a (ns.map V.int)->sp w [.ref a] H (fun v _=>v=.bl true) fun _ _ _=>False)
  (hCX:∀(w:World)(H:Hp)(s:Shared)(e:Value)(s':Shared),CX w [] H s (fun _ _ _=>False) e s'->False) :
  PySem.W.WalkO q loose XP YP l.row.toRowW d [] (fun f vs=>PySem.call f vs):=by
 refine Att.attach_call hn hdf fun w s₀ s₁ mg mb fa o pm cd doc a vs ns G Y ho hd hcd hmg hobj hints hlen hg=>?_;have KX:=hY w _ Y;obtain⟨fd,hb,hF⟩:=F w mg fa _ KX G.T.g hmg;exact pW KX G.T.g G.T.b G.T.builtins G.T.nolimit hg hobj hints (Vb hlen hn2) hr hF hb (fun H hO hS=>hsp w H a ns hlen hO hS) fun H e s'=>hCX w H s₁ e s'
end L2
namespace L2
open PySem PySem.Spec PyProof.Rows
noncomputable def cF(s:Stmt):Arguments:=match s with
 | .FunctionDef _ a _ _ _ _ _ _ _ _=>a
 | _=>{ posonlyargs:=[],args:=[],vararg:=none,kwonlyargs:=[],kw_defaults:=[],kwarg:=none,defaults:=[] }
noncomputable def bK(s:Stmt):List Stmt:=match s with
 | .FunctionDef _ _ b _ _ _ _ _ _ _=>b
 | _=>[]
noncomputable def ak(s:Stmt):Scope:=match s with
 | .FunctionDef _ _ _ _ _ _ sc _ _ _=>sc
 | _=>{ kind:=.function,names:=[],isGenerator:=false,isCoroutine:=false }
noncomputable abbrev CX0:CXT:=fun _ _ _ _ _ _=>False
noncomputable abbrev E0:XK:=fun _ _ _=>False
theorem wE{X:Cx}:mw CX0 X E0:=fun _ _ _ _ _ _ _ h=>h.elim
structure Fun(K:PySem.W.Frag)(x qual:Str)(st:Stmt)(f:Addr)(fd:FuncData):Prop where
 ex:∃(oc:Value)(od:Option Addr)(kV doc pm:Value)(an:Option Addr)(cdv ct:Value)(osl:Array (Option Value)),
  fd=PySem.W.fnOf x qual (cF st) (bK st) (ak st) .none kV doc pm an cdv ct/\K.lookup f=some ⟨oc,od,.func fd,osl⟩/\PySem.W.codeIn K cdv qual=true
 kp:PySem.W.keepIn K (.ref f)=true
section
variable {P:Program}{w:World}{K:PySem.W.Frag}{mg:Str->Option Value}{base:Heap}
theorem Fun.ok{x qual:Str}{st:Stmt}{f:Addr}{fd:FuncData}{N ps:List Str}{k:Nat}{sp:Sp}(F:Fun K x qual st f fd)(S:FnScope N ps (ak st))(len:∀vs H Q E,sp vs H Q E->vs.length=ps.length)
  (hbody:∀(cdv:Value)(A:Around)(outer:List Env)(s:Shared)(H:Hp)(vs:List V)(Q:VK)(E:XK),Room k (A.deeper (envOfC qual (ak st) s.heap.objs.size f cdv))->sp vs H Q E ->
   ∃t,PSs (d8 CX0 P w K mg base N qual (ak st) f cdv A outer s H E).nox (bK st) t/\t { nx:=fun _ H'=>Q .non H',rt:=Q } (start N vs) H):FnOk P w K mg base CX0 (k+1) f fd ps sp:=by
 obtain⟨oc,od,kV,doc,pm,an,cdv,ct,osl,rfl,lk,hcd⟩:=F.ex;refine pP lk hcd S len fun A outer s H vs Q E hr hsp=>?_;obtain⟨t,h,q⟩:=hbody cdv A outer s H vs Q E hr hsp;exact⟨t,h.nox,q⟩
theorem Fun.binds{x qual:Str}{st:Stmt}{f:Addr}{fd:FuncData}{ps:List Str}(F:Fun K x qual st f fd)
  (h:∀(kV doc pm:Value)(an:Option Addr)(cdv ct:Value)(us:List Value),us.length=ps.length->bindArgs (PySem.W.fnOf x qual (cF st) (bK st) (ak st) .none kV doc pm an cdv ct) ⟨us,[]⟩=pure (ps.zip us)):Binds K fd ps []:=by
 obtain⟨oc,od,kV,doc,pm,an,cdv,ct,osl,rfl,lk,hcd⟩:=F.ex;exact .all (h kV doc pm an cdv ct)
theorem vi{x qual:Str}{st:Stmt}{f:Addr}{oc:Value}{od an:Option Addr}{osl:Array (Option Value)}{kV doc pm cdv ct:Value}(l:K.lookup f=some ⟨oc,od,.func (PySem.W.fnOf x qual (cF st) (bK st) (ak st) .none kV doc pm an cdv ct),osl⟩)
  (c:PySem.W.codeIn K cdv qual=true)(k:PySem.W.keepIn K (.ref f)=true):Fun K x qual st f (PySem.W.fnOf x qual (cF st) (bK st) (ak st) .none kV doc pm an cdv ct):=⟨⟨oc,od,kV,doc,pm,an,cdv,ct,osl,rfl,l,c⟩,k⟩
end
theorem oU{n:Nat}(h:n<=1000):n<sizeLine:=Nat.lt_of_le_of_lt h (by decide)
section
variable {X:Cx}
theorem pv(i:Nat){x:Str}{pos:Pos}(hN:X.N[i]?=some x:=by rfl)(hv:Vis X.env.scope x:=by first|exact Or.inl rfl|exact Or.inr (Or.inl rfl)|exact Or.inr (Or.inr rfl))(hd:(x == ("__debug__":Str))=false:=by decide)
  (hcd:(x == ("__classdict__":Str))=false:=by decide):PE X (.Name x pos) (gu i):=uW hN hv hd hcd
end
noncomputable def Same(H H':Hp):Prop:=∀b o,H b=some o->H' b=some o
theorem Same.refl(H:Hp):Same H H:=fun _ _ h=>h
end L2
namespace L2
open PySem PySem.Spec PyProof.Rows
noncomputable def br(env:Env):List (Str×NameKind)->List (Str×Addr)->List (Str×Addr)
 | [],acc=>acc
 | (n,k)::r,acc=>if k=.free then br env r ((n,(env.cells.lookup n).getD 0)::acc) else br env r acc
theorem dJ{env:Env}{f:Str×NameKind->List (Str×Addr)->Sem (ForInStep (List (Str×Addr)))}
  (h1:∀n k cs c,k=NameKind.free->env.cells.lookup n=some c->f (n,k) cs=pure (.yield ((n,c)::cs)))
  (h2:∀n k cs,k≠NameKind.free->f (n,k) cs=pure (.yield cs)) :
  ∀(names:List (Str×NameKind))(acc:List (Str×Addr)),(∀x∈names,x.2=.free->∃c,env.cells.lookup x.1=some c)->forIn names acc f=pure (br env names acc)
 | [],_,_=>rfl
 | (n,k)::r,acc,h=>by
  have hr:∀x∈r,x.2=.free->∃c,env.cells.lookup x.1=some c:=fun x hx=>h x (Xc _ hx);by_cases hk:k=.free
  ·obtain⟨c,hc⟩:=h (n,k) Wd hk;have e:br env ((n,k)::r) acc=br env r ((n,c)::acc):=by
    show(if k=.free then _ else _)=_;rw[if_pos hk];have hc':env.cells.lookup n=some c:=hc;rw[hc'];rfl
   rw[List.forIn_cons,h1 n k acc c hk hc,pure_bind,e];exact dJ h1 h2 r _ hr
  ·have e:br env ((n,k)::r) acc=br env r acc:=by
    show(if k=.free then _ else _)=_;rw[if_neg hk]
   rw[List.forIn_cons,h2 n k acc hk,pure_bind,e];exact dJ h1 h2 r _ hr
theorem gy{scope:Scope}{env:Env}(h:∀x∈scope.names,x.2=.free->∃c,env.cells.lookup x.1=some c):closureFor scope env=pure (br env scope.names []):=by
 simp only[closureFor];have key:=fun f h1 h2=>dJ (env:=env) (f:=f) h1 h2 scope.names [] h
 rw[key _ (fun n k cs c hk hc=>by subst hk;simp[cellOf,hc]) (fun n k cs hk=>by
  have:(k == NameKind.free)=false:=by simpa using hk
  simp only[this,Zd,if_false])]
 rfl
theorem bL{α β:Type}[BEq α]{x n:α}{k:β}{r:List (α×β)}:List.lookup x ((n,k)::r)=if (x == n)=true then some k else List.lookup x r:=by
 rw[List.lookup_cons];cases x == n<;>rfl
theorem dm{env:Env}{x:Str}{c:Addr}:∀(names:List (Str×NameKind))(acc:List (Str×Addr)),(∀x∈names,x.2=.free->∃c,env.cells.lookup x.1=some c) ->
  (∀y c,acc.lookup y=some c->env.cells.lookup y=some c)->(br env names acc).lookup x=some c->env.cells.lookup x=some c
 | [],acc,_,ha,e=>ha x c e
 | (n,k)::r,acc,h,ha,e=>by
  have hr:∀x∈r,x.2=.free->∃c,env.cells.lookup x.1=some c:=fun x hx=>h x (Xc _ hx);by_cases hk:k=.free
  ·obtain⟨c',hc⟩:=h (n,k) Wd hk;have hc':env.cells.lookup n=some c':=hc;have q:br env ((n,k)::r) acc=br env r ((n,c')::acc):=by
    show(if k=.free then _ else _)=_;rw[if_pos hk,hc'];rfl
   rw[q]at e;refine dm r _ hr (fun y d hy=>?_) e;rw[bL]at hy;by_cases hyn:(y == n)=true
   ·rw[if_pos hyn]at hy;have:y=n:=by simpa using hyn
    rw[this,hc',hy]
   ·rw[if_neg hyn]at hy;exact ha y d hy
  ·have q:br env ((n,k)::r) acc=br env r acc:=by
    show(if k=.free then _ else _)=_;rw[if_neg hk]
   rw[q]at e;exact dm r _ hr ha e
theorem f9{env:Env}{x:Str}{c:Addr}(hx:env.cells.lookup x=some c):∀(names:List (Str×NameKind))(acc:List (Str×Addr)),(acc.lookup x=some c∨(x,NameKind.free)∈names)->(br env names acc).lookup x=some c
 | [],acc,h=>by
  rcases h with h|h
  ·exact h
  ·cases h
 | (n,k)::r,acc,h=>by
  by_cases hk:k=.free
  ·have q:br env ((n,k)::r) acc=br env r ((n,(env.cells.lookup n).getD 0)::acc):=by
    show(if k=.free then _ else _)=_;rw[if_pos hk]
   rw[q];refine f9 hx r _ ?_;by_cases hxn:(x == n)=true
   ·left;have e:x=n:=by simpa using hxn
    rw[bL,if_pos hxn,← e,hx];rfl
   ·rcases h with h|h
    ·left;rw[bL,if_neg hxn];exact h
    ·right;rcases Wg.mp h with h|h
     ·cases h;exact absurd (by simp) hxn
     ·exact h
  ·have q:br env ((n,k)::r) acc=br env r acc:=by
    show(if k=.free then _ else _)=_;rw[if_neg hk]
   rw[q];refine f9 hx r _ ?_;rcases h with h|h
   ·exact .inl h
   ·rcases Wg.mp h with h|h
    ·cases h;exact absurd rfl hk
    ·exact .inr h
theorem cN{env:Env}{x:Str}:∀(names:List (Str×NameKind)),
  ((names.map fun(n,k)=>if (k == NameKind.free&&env.scope.kind == .function&&env.kindOf n == some .cell) then(n,NameKind.cell) else(n,k)).lookup x=none/\names.lookup x=none) ∨
  ∃k k',names.lookup x=some k/\(names.map fun(n,k)=>if (k == NameKind.free&&env.scope.kind == .function&&env.kindOf n == some .cell) then(n,NameKind.cell) else(n,k)).lookup x=some k'/\(k'=k∨(k=.free/\k'=.cell))
 | []=>.inl ⟨rfl,rfl⟩
 | (n,k)::r=>by
  have ih:=@cN env x r;show(List.lookup x ((if (k == NameKind.free&&env.scope.kind == .function&&env.kindOf n == some .cell)=true then(n,NameKind.cell) else(n,k))::_)=none/\_)∨∃k' k'',_/\List.lookup x ((if (k == NameKind.free&&env.scope.kind == .function&&env.kindOf n == some .cell)=true then(n,NameKind.cell) else(n,k))::_)=_/\_;by_cases hc:(k == NameKind.free&&env.scope.kind == .function&&env.kindOf n == some .cell)=true
  ·rw[if_pos hc,bL,bL];have hk:k=.free:=by
    simp only[Vc]at hc;simpa using hc.1.1
   by_cases hx:(x == n)=true
   ·rw[if_pos hx,if_pos hx];exact .inr ⟨k,.cell,rfl,rfl,.inr ⟨hk,rfl⟩⟩
   ·rw[if_neg hx,if_neg hx];exact ih
  ·rw[if_neg hc,bL,bL];by_cases hx:(x == n)=true
   ·rw[if_pos hx,if_pos hx];exact .inr ⟨k,k,rfl,rfl,.inl rfl⟩
   ·rw[if_neg hx,if_neg hx];exact ih
noncomputable abbrev cxC(X:Cx)(N:List Str)(scope:Scope)(C:Addr)(s:Shared)(H:Hp)(fp:List Addr):Cx :=
 { X with N:=N,s₀:=s,H₀:=H,env:=compEnvC scope (br X.env scope.names []) C X.env,outer:=X.stack,stack:=X.stack,ex:=fp,fn:=fun _=>false,pn:=[],xe:=fun _ _=>False }
structure BlkScope(X:Cx)(N:List Str)(k:Nat)(caps:List Nat)(scope:Scope):Prop where
 kind:scope.kind=.function
 nocell:∀y∈scope.names,y.2≠.cell
 loc:∀y∈scope.names,y.2=.local->scope.names.lookup y.1=some .local
 free:∀y∈scope.names,y.2=.free->(X.env.kindOf y.1=some .cell∨X.env.kindOf y.1=some .free)
 len:N.length=k+caps.length
 cap:∀(j i:Nat),caps[j]?=some i->∃x,N[k+j]?=some x/\X.N[i]?=some x/\scope.names.lookup x=some .free
noncomputable def blk(k:Nat)(caps:List Nat)(σ:St):St:=List.replicate k none++caps.map fun i=>(σ[i]?).getD none
section
variable {X:Cx}{N:List Str}{k:Nat}{caps:List Nat}{scope:Scope}
theorem BlkScope.cells(S:BlkScope X N k caps scope)(ok:X.Ok):∀x∈scope.names,x.2=.free->∃c,X.env.cells.lookup x.1=some c:=fun x hx hk=>ok.has x.1 (S.free x hx hk)
theorem BlkScope.sub(S:BlkScope X N k caps scope)(ok:X.Ok){x:Str}{c:Addr}(e:(br X.env scope.names []).lookup x=some c):X.env.cells.lookup x=some c :=
 dm _ _ (S.cells ok) (fun y c h=>by cases h) e
theorem BlkScope.has(S:BlkScope X N k caps scope)(ok:X.Ok){x:Str}(h:scope.names.lookup x=some .free):∃c,X.env.cells.lookup x=some c/\(br X.env scope.names []).lookup x=some c:=by
 have hm:=PySem.mem_of_lookup h;obtain⟨c,hc⟩:=S.cells ok _ hm rfl;exact⟨c,hc,f9 hc _ _ (.inr hm)⟩
theorem nN(σ:St):(blk k caps σ).length=k+caps.length:=by unfold blk;simp
theorem nO{σ:St}{i:Nat}{v:V}(h:(blk k caps σ)[i]?=some (some v)):∃j i',i=k+j/\caps[j]?=some i'/\σ[i']?=some (some v):=by
 unfold blk at h;by_cases hi:i<k
 ·rw[Xd (by simpa using hi),Yf]at h
  split at h<;>cases h
 ·rw[Qb (by simpa using hi),Vd,Qc]at h
  refine⟨i-k,?_⟩;cases e:caps[i-k]? with
  | none=>rw[e]at h;cases h
  | some i' =>
   rw[e]at h;refine⟨i',by lia,rfl,?_⟩
   have h':(σ[i']?).getD none=some v:=by simpa using h
   cases q:σ[i']? with
   | none=>rw[q]at h';cases h'
   | some o=>rw[q]at h';have h'':o=some v:=h';rw[h'']
theorem vj{pins:List (Addr×Obj)}{σ:St}{H:Hp}{s:Shared}{fp:List Addr}{C:Addr}(S:BlkScope X N k caps scope)(I:Inv X pins σ H s)(hf:∀b∈fp,jz X pins H b)(hlt:∀b∈fp,b<s.heap.objs.size)(hC:s.heap.objs.size<=C) :
  (cxC X N scope C s H fp).Ok:=by
 have nfs:∀b∈fp,b∉frs X.stack:=fun b hb z=>by
  rcases Wg.mp (I.stkSub b z) with e|e
  ·exact(hf b hb).2.1 e
  ·exact(hf b hb).2.2.1 e
 refine⟨I.ok.mod,S.kind,I.ok.glob,I.ok.blt,hC,fun x y c h1 h2=>I.ok.inj x y c (S.sub I.ok h1) (S.sub I.ok h2),fun x hx=>?_,fun x c h=>(by cases h),I.ok.hd,I.ok.frames,.inl rfl,fun b hb=>⟨?_,fun x c e=>?_⟩,I.bs,Vb I.ok.bsz I.sz,fun b o e hb=>?_,nfs,I.stack,I.stkFree⟩
 ·have hx':(relabel scope X.env).names.lookup x=some .cell∨(relabel scope X.env).names.lookup x=some .free:=hx;rcases cN (env:=X.env) (x:=x) scope.names with⟨e,_⟩|⟨k1,k2,e1,e2,e3⟩
  ·rcases hx' with z|z<;>(have z':=e.symm.trans z;cases z')
  ·have hk2:k2=.cell∨k2=.free:=by
    rcases hx' with z|z
    ·exact .inl (Option.some.inj (e2.symm.trans z))
    ·exact .inr (Option.some.inj (e2.symm.trans z))
   have hfree:k1=.free:=by
    rcases e3 with z|⟨z,_⟩
    ·rcases hk2 with q|q
     ·exact absurd (z.symm.trans q) (S.nocell _ (PySem.mem_of_lookup e1))
     ·exact z.symm.trans q
    ·exact z
   rw[hfree]at e1;obtain⟨c,_,hc⟩:=S.has I.ok e1;exact⟨c,hc⟩
 ·exact Xf (Yb (hlt b hb) hC)
 ·exact(hf b hb).2.2.2.2.1 x c (S.sub I.ok e)
 ·rcases(hf b hb).2.2.2.1 with z|z
  ·exact I.ok.noex b o e z
  ·exact absurd (Yb (Heap.lt_size (I.ok.bs b o e).1) z) (Qe _)
theorem sh{pins:List (Addr×Obj)}{σ:St}{H:Hp}{s s3:Shared}{fp:List Addr}{C:Addr}{m:Str->Option Value}(S:BlkScope X N k caps scope)(I:Inv X pins σ H s)(hf:∀b∈fp,jz X pins H b)(hlt:∀b∈fp,b<s.heap.objs.size)
  (hC:s.heap.objs.size<=C)(hos:s3.os=s.os)(hg:s3.gens=s.gens)(kp:∀b o,s.heap.get? b=some o->s3.heap.get? b=some o)(hn:s3.heap.Ns C m):Inv (cxC X N scope C s H fp) [] (blk k caps σ) H s3:=by
 refine⟨vj S I hf hlt hC,hos,by rw[hg];exact I.bare,Un.kept kp,⟨m,hn,fun i x v e1 e2 e3=>?_⟩,fun x c e=>?_,I.hok.fresh hC,fun x c e=>I.freeC x c (S.sub I.ok e),fun p hp=>absurd hp (by simp),I.hok.kept kp,by rw[nN];exact S.len.symm⟩
 ·obtain⟨j,i',rfl,hc,hv⟩:=nO e2;obtain⟨y,h1,h2,h3⟩:=S.cap j i' hc;have exy:y=x:=Option.some.inj (h1.symm.trans e1);subst exy;obtain⟨c,hc1,hc2⟩:=S.has I.ok h3;obtain⟨m0,hn0,hl0⟩:=I.loc;have hkind:=S.free _ (PySem.mem_of_lookup h3) rfl;obtain⟨u,ru,lu⟩:=hl0 i' y v h2 hv (hkind.elim (fun z=>.inr (.inl z)) (fun z=>.inr (.inr z)));refine⟨u,ru,.inr ⟨?_,c,hc2,?_⟩⟩
  ·rcases cN (env:=X.env) (x:=y) scope.names with⟨_,e⟩|⟨k1,k2,q1,q2,q3⟩
   ·rw[e]at h3;cases h3
   ·have hk1:k1=.free:=Option.some.inj (q1.symm.trans h3);rcases q3 with z|⟨_,z⟩
    ·right;show(relabel scope X.env).names.lookup y=_;exact q2.trans (by rw[z,hk1])
    ·left;show(relabel scope X.env).names.lookup y=_;exact q2.trans (by rw[z])
  ·rcases lu with⟨hk,_⟩|⟨_,c',hc',cell⟩
   ·rcases hkind with z|z<;>(have z':=hk.symm.trans z;cases z')
   ·have:c'=c:=Option.some.inj (hc'.symm.trans hc1);subst this;obtain⟨o,ho,hd⟩:=cell;exact⟨o,kp _ o ho,hd⟩
 ·obtain⟨v,o,ho,hd⟩:=I.cell x c (S.sub I.ok e);exact⟨v,o,kp _ o ho,hd⟩
end
noncomputable def PIf(X:Cx)(ifs:List Expr)(t:TT):Prop :=
 ∀(pins:List (Addr×Obj))(s:Shared)(σ:St)(H:Hp)(Q:Bool->Hp->Prop),Inv X pins σ H s->t σ H Q ->
  wpAny (model X.prog X.w) X.A (forIn ifs true fun c r=>if r=true then do let ok ← isTrue c X.env (eval c X.env);pure (ForInStep.yield ok) else pure (ForInStep.yield r)) (TP X pins σ Q) X.xe s
noncomputable def wF:TT:=fun _ H Q=>Q true H
theorem fA{X:Cx}:PIf X [] wF:=fun _ _ _ H _ I h=>wpAny_tests_nil ⟨H,I,h⟩
theorem d9{prog:Program}{w:World}{A:Around}{R:Result->Shared->Prop}{s:Shared}{elt target iter:Expr}{ifs:List Expr}{scope:Scope}{pos:Pos}{it acc:Value}{env:Env}(I:Nat->Shared->Prop)
  (turn:∀n s,I n s->wpAny (model prog w) A (pyNext it) (fun r s₁=>match r with
   | none=>R (.ok .next) s₁
   | some v=>wpAny (model prog w) A (letOwnedTupleGo target it v) (fun _ s₀=>wpAny (model prog w) A (assign target env v) (fun _ s₂ =>
     wpAny (model prog w) A (forIn ifs true fun c r=>if r=true then do let ok ← isTrue c env (eval c env);pure (ForInStep.yield ok) else pure (ForInStep.yield r)) (fun ok s₃ =>
      if ok=true then wpAny (model prog w) A (eval elt env) (fun x s₄ =>
       wpAny (model prog w) A (call (.builtin "list.append") [acc,x]) (fun _ s₅=>∃m,m<n/\I m s₅) (fun _ _=>False) s₄) (fun _ _=>False) s₃
      else ∃m,m<n/\I m s₃) (fun _ _=>False) s₂) (fun _ _=>False) s₀) (fun _ _=>False) s₁) (fun _ _=>False) s)
  (n:Nat) (h:I n s) :
  codeAny (model prog w) A (.compLoop (.ListComp elt [⟨target,iter,ifs,0⟩] scope pos) 0 it acc env) R s:=by
 refine codeAny_loop rfl I (fun n s hI=>?_) n h;show wpAny _ A ((compTurn (.ListComp elt [⟨target,iter,ifs,0⟩] scope pos) 0 it acc env).onRaise (fun x=>do noteFrame x env;theTreesLotGoes x)) _ _ s
 refine wpAny_noted ?_;rw[compTurn_list];refine wpAny_bind (wpAny_standAt (wpAny_bind (wpAny_mono (turn n s hI) (fun r s₁ h₁=>?_) fun _ _ h'=>False.elim h')));cases r with
 | none=>exact wpAny_pure h₁
 | some v =>
  refine wpAny_bind (wpAny_mono h₁ (fun _ s₀ h₀=>?_) fun _ _ h'=>False.elim h');refine wpAny_bind (wpAny_mono h₀ (fun _ s₂ h₂=>wpAny_bind (wpAny_mono h₂ (fun ok s₃ h₃=>?_) fun _ _ h'=>False.elim h')) fun _ _ h'=>False.elim h');cases ok with
  | false=>exact wpAny_pure ⟨rfl,h₃⟩
  | true =>
   exact wpAny_bind (wpAny_bind (wpAny_mono h₃ (fun x s₄ h₄=>wpAny_bind (wpAny_mono h₄ (fun _ s₅ h₅=>wpAny_pure (wpAny_pure ⟨rfl,h₅⟩)) fun _ _ h'=>False.elim h')) fun _ _ h'=>False.elim h'))
noncomputable def nP(k:Nat)(caps:List Nat)(wi:TI)(g:TG)(tc:TT)(te:TE):TE:=fun σ H Q=>wi σ H fun J H1=>∃(n:Nat)(W:Nat->List V->Hp->Prop),W 0 [] H1 /\
 (∀xs H,W n xs H->J.stop n H/\∀p,H p=none->Q (.ref p) (upd H p (.lst xs))) /\
 ∀i xs H,i<n->W i xs H->J.go i H/\xs.length<sizeLine/\∀x H',J.yld i H x H'->g x (blk k caps σ) H' fun σ2 H2=>tc σ2 H2 fun ok H3 =>
  if ok=true then te σ2 H3 fun y H4=>σ2.drop k=(blk k caps σ).drop k/\W (i+1) (xs++[y]) H4
  else σ2.drop k=(blk k caps σ).drop k/\W (i+1) xs H3
noncomputable abbrev cz(its:List Value)(n:Nat):Obj:={ cls:=.type "list",data:=.seq its.toArray n }
noncomputable def ue(X:Cx)(pins:List (Addr×Obj))(H:Hp)(C:Addr):Prop :=
 H C=none/\C≠X.env.locals/\(C∈X.ex∨X.s₀.heap.objs.size<=C)/\(∀x c,X.env.cells.lookup x=some c->c≠C)/\∀p∈X.pn++pins,p.1≠C
inductive CI(X':Cx)(A:Addr)(σ:St)(tn:Nat->Heap->Prop)(fp:List Addr)(n0:Nat)(W:Nat->List V->Hp->Prop)(n:Nat)(s':Shared):Prop
 | mk (i:Nat) (xs:List V) (its:List Value) (nn:Nat) (H':Hp) (J:Inv X' [(A,cz its nn)] σ H' s') (st:tn i s'.heap) (fr:∀b∈fp,H' b=none) (vs:Vals xs its) (hz:xs.length<=sizeLine) (hn:n=n0-i) (hi:i<=n0) (w:W i xs H')
theorem pX{X:Cx}{elt iter tg:Expr}{ifs:List Expr}{scope:Scope}{pos cpos:Pos}{N:List Str}{k:Nat}{caps:List Nat}{wi:TI}{g:TG}{tc:TT}{te:TE}{use:Option (Value->Sem Unit)}{Q':Value->Shared->Prop}
  {pins:List (Addr×Obj)}{s:Shared}{σ:St}{H:Hp}{Q:VK}(S:BlkScope X N k caps scope)(hc:X.calm=true)(hi:PI X tg iter wi)
  (hg:∀C s H fp,PG (cxC X N scope C s H fp) tg g) (ht:∀C s H fp,PIf (cxC X N scope C s H fp) ifs tc) (he:∀C s H fp,PE (cxC X N scope C s H fp) elt te)
  (hs:∀x,foldedSetIterable iter X.env x=pure x) (I:Inv X pins σ H s) (h:nP k caps wi g tc te σ H Q)
  (fin:∀(D C:Addr)(H4:Hp)(s4:Shared)(m:Str->Option Value),Inv X pins σ H4 s4->s4.heap.Ns C m->ue X pins H4 C->Q (.ref D) H4->compPost (model X.prog X.w) X.A X.xe use Q' (.ref D) C (.ok .next) s4) :
  wpAny (model X.prog X.w) X.A (comprehension (.ListComp elt [⟨tg,iter,ifs,0⟩] scope pos) scope X.env cpos (newList []) false (eval iter X.env) use) Q' X.xe s:=by
 refine wpAny_comprehension_free rfl hs (gy (S.cells I.ok)) S.kind S.loc ?_;refine thn (hi pins s σ H _ I h) fun v s1 h1=>thn h1 fun itv s2 h2=>?_;obtain⟨it,fp,tn,J,H2,e,I2,T,st2,f2,n0,W,w0,wstop,turn⟩:=h2;subst e;refine wpAny_newObj_type (wpAny_newFunctionEnv S.nocell (by intro y hy;simp at hy) (fun h₁ hns₁ hsb₁=>?_) S.kind)
 dsimp only at hns₁ hsb₁ ⊢;generalize hG:s2.heap.push { cls:=.type "list",dict:=none,data:=.seq ([]:List Value).toArray }=G at hns₁ hsb₁ ⊢;have hCG:G.objs.size=s2.heap.objs.size+1:=by rw[← hG,Heap.size_push]
 have hDC:s2.heap.objs.size≠G.objs.size:=by lia
 have below:∀b,b<s2.heap.objs.size->b≠G.objs.size/\b≠s2.heap.objs.size:=fun b hb=>⟨by lia,by lia⟩
 have old:∀b o,s2.heap.get? b=some o->h₁.get? b=some o:=fun b o e=>hsb₁.extBut b o (below b (Heap.lt_size e)).1 (Heap.get?_push_of_some _ (hG ▸ Heap.get?_push_of_some _ e));have hacc:h₁.get? s2.heap.objs.size=some (cz [] 0):=hsb₁.extBut _ _ hDC (Heap.get?_push_of_some _ (hG ▸ Heap.get?_push_size _ rfl));have hlt:∀b∈fp,b<s2.heap.objs.size:=fun b hb=>by obtain⟨o,ho,_⟩:=T.obj 0 _ st2 b hb;exact Heap.lt_size ho
 have hDf:s2.heap.objs.size∉fp:=fun z=>Qe _ (hlt _ z);have hle:s2.heap.objs.size<=G.objs.size:=by lia
 have hDcell:∀x c,(br X.env scope.names []).lookup x=some c->c≠s2.heap.objs.size:=fun x c e z=>by
  obtain⟨v,q⟩:=I2.cell x c (S.sub I2.ok e);exact absurd q.lt (by rw[z];exact Qe _)
 have hDfs:s2.heap.objs.size∉frs X.stack:=fun z=>by
  obtain⟨_,o,ho,_⟩:=I2.stack.mem z;exact absurd (Heap.lt_size ho) (Qe _)
 have nfs:∀b∈fp,b∉frs X.stack:=fun b hb z=>by
  rcases Wg.mp (I2.stkSub b z) with e|e
  ·exact(f2 b hb).2.1 e
  ·exact(f2 b hb).2.2.1 e
 have fpk:∀{H':Hp}{its:List Value}{n:Nat},(∀b∈fp,H' b=none)->∀b∈fp,jz (cxC X N scope G.objs.size s2 H2 fp) [(s2.heap.objs.size,cz its n)] H' b:=fun {H' its n} hn b hb =>
  ⟨hn b hb,(below b (hlt b hb)).1,nfs b hb,.inl hb,fun x c e=>(f2 b hb).2.2.2.2.1 x c (S.sub I2.ok e),fun p hp=>by
   have e:p=(s2.heap.objs.size,cz its n):=by simpa using hp
   rw[e];exact Ne.symm (below b (hlt b hb)).2⟩
 have pinD:∀{H':Hp}{s':Shared}{σ':St}{its:List Value}{n:Nat},Inv (cxC X N scope G.objs.size s2 H2 fp) [] σ' H' s'->s'.heap.get? s2.heap.objs.size=some (cz its n)->H' s2.heap.objs.size=none->Inv (cxC X N scope G.objs.size s2 H2 fp) [(s2.heap.objs.size,cz its n)] σ' H' s':=fun {H' s' σ' its n} J e hn =>
  J.pins_of fun p hp=>by
   have q:p=(s2.heap.objs.size,cz its n):=by simpa using hp
   rw[q];exact⟨e,hn,hDC,hDfs,fun v z=>by cases z⟩
 have I3:Inv (cxC X N scope G.objs.size s2 H2 fp) [] (blk k caps σ) H2 { s2 with heap:=h₁,toks:=s2.toks+([]:List (Str×Value)).length }:=sh S I2 f2 hlt hle rfl rfl old hns₁;have loop:codeAny (model X.prog X.w) X.A (.compLoop (.ListComp elt [⟨tg,iter,ifs,0⟩] scope pos) 0 (.ref it) (.ref s2.heap.objs.size) (compEnvC scope (br X.env scope.names []) G.objs.size X.env))
   (compPost (model X.prog X.w) X.A X.xe use Q' (.ref s2.heap.objs.size) G.objs.size) { s2 with heap:=h₁,toks:=s2.toks+([]:List (Str×Value)).length }:=by
  refine d9 (CI (cxC X N scope G.objs.size s2 H2 fp) s2.heap.objs.size (blk k caps σ) tn fp n0 W) ?_ n0
   ⟨0,[],[],0,H2,pinD I3 hacc (I2.hok.fresh (Xa _)),T.keep _ _ _ st2 fun b _ o e=>old b o e,fun b hb=>(f2 b hb).1,.nil,Vj _,rfl,Vj _,w0⟩
  rintro n s3 ⟨i,xs,its,nn,H3,J3,st3,fr3,vs3,hz3,hn3,hi3,w3⟩;by_cases hin:i<n0
  rotate_left
  ·have ein:i=n0:=by lia
   subst ein;obtain⟨stop,qn⟩:=wstop xs H3 w3;refine thn (T.done (cxC X N scope G.objs.size s2 H2 fp) rfl rfl rfl hc i _ s3 _ H3 _ J3 (fpk fr3) st3 stop) fun r s4 zz9=>?_;obtain⟨hr,J4⟩:=zz9;subst hr;obtain⟨eD,nD,_⟩:=J4.pin (s2.heap.objs.size,cz its nn) (by simp)
   have eD:s4.heap.get? s2.heap.objs.size=some (cz its nn):=eD;have nD:H3 s2.heap.objs.size=none:=nD;obtain⟨m4,hm4,_⟩:=J4.loc;have U:Un (frs X.stack) fp H2 H3 s2.heap s4.heap:=J4.base;have neC:∀b o,s2.heap.get? b=some o->b≠G.objs.size:=fun b o e=>(below b (Heap.lt_size e)).1;have neD:∀b o,s2.heap.get? b=some o->b≠s2.heap.objs.size:=fun b o e=>(below b (Heap.lt_size e)).2;have H2D:H2 s2.heap.objs.size=none:=I2.hok.fresh (Xa _);have HC:H3 G.objs.size=none:=J4.free;refine fin s2.heap.objs.size G.objs.size (upd H3 s2.heap.objs.size (.lst xs)) s4 m4 (I2.call' (s':=s4) (ch:=fp) J4.os ?_ ?_ J4.bare ?_) hm4 ?_ (qn _ nD)
   ·refine⟨fun b o e n hb hx=>U.keep b o e n hb hx,fun b o e n hb hx=>U.slot b o e n hb hx,fun b o e n hx=>?_,fun b o e hx=>U.there b o e hx,fun b ys e=>?_,fun b o u e=>?_,fun b ps e=>?_⟩
    ·rw[ao (neD b o e)];exact U.free b o e n hx
    ·rw[ao (aR e H2D)];exact U.tups b ys e
    ·rw[ao (aR e H2D)];exact U.frzs b o u e
    ·obtain⟨more,q⟩:=U.tbls b ps e;exact⟨more,by rw[ao (aR e H2D)];exact q⟩
   ·intro b u e;by_cases hb:b=s2.heap.objs.size
    ·subst hb;rw[ay]at e;cases e;exact⟨hz3,its,nn,vs3,eD⟩
    ·rw[ao hb]at e;exact(J4.hok b u e).stay (fun c v _ q=>q) (fun c q=>by rw[ao (aR q nD)];exact q) fun c ys q=>by rw[ao (aR q nD)];exact q
   ·exact fun b hb=>⟨(f2 b hb).2.2.2.1,(f2 b hb).2.1,(f2 b hb).2.2.2.2.1,(f2 b hb).2.2.2.2.2⟩
   ·refine⟨by rw[ao (Ne.symm hDC)];exact HC,Nat.ne_of_gt (Yb I2.lt hle),.inr (Vb I2.sz hle),fun x c e z=>?_,fun p hp z=>?_⟩
    ·obtain⟨v,q⟩:=I2.cell x c e;exact absurd (Yb q.lt (by rw[z];exact hle)) (Qe _)
    ·exact absurd (Yb (Heap.lt_size (I2.pin p hp).1) (by rw[z];exact hle)) (Qe _)
  ·obtain⟨go,hz,step⟩:=turn i xs H3 hin w3;refine thn (T.item (cxC X N scope G.objs.size s2 H2 fp) rfl rfl rfl hc i _ s3 _ H3 _ J3 (fpk fr3) st3 go) fun r s4 zz9=>?_;obtain⟨u,hr,h4⟩:=zz9;subst hr;refine thn h4 fun _ s5 zz9=>?_;obtain⟨x,H5,J5,r5,y5,st5,fr5⟩:=zz9;have J5':=J5.pinned (fpk fr5) (T.obj _ _ st5);refine thn (hg _ _ _ _ _ s5 _ H5 x u _ J5' r5 (step x H5 y5)) fun _ s6 zz9=>?_;obtain⟨σ6,H6,J6,q6⟩:=zz9;refine thn (ht _ _ _ _ _ s6 σ6 H6 _ J6 q6) fun ok s7 zz9=>?_;obtain⟨H7,J7,q7⟩:=zz9;have wk:∀{σ8:St}{H8:Hp}{s8:Shared}{pl:List (Addr×Obj)},Inv (cxC X N scope G.objs.size s2 H2 fp) pl σ8 H8 s8->σ8.drop k=(blk k caps σ).drop k->Inv (cxC X N scope G.objs.size s2 H2 fp) pl (blk k caps σ) H8 s8:=fun {σ8 H8 s8 pl} J8 hd =>
    J8.weak (by rw[nN,J8.len];exact S.len.symm) fun j v e=>by
     obtain⟨j',i',rfl,hc',hv'⟩:=nO e;have e1:((blk k caps σ).drop k)[j']?=some (some v):=by rw[Zf];exact e
     rw[← hd,Zf]at e1;exact e1
   have recs:∀{σ8:St}{H8:Hp}{s8:Shared},Inv (cxC X N scope G.objs.size s2 H2 fp) ([(s2.heap.objs.size,cz its nn)]++iZ fp s5.heap) σ8 H8 s8->(∀b∈fp,∀o,s5.heap.get? b=some o->s8.heap.get? b=some o)/\(∀b∈fp,H8 b=none):=fun {σ8 H8 s8} J8 =>
    ⟨fun b hb o e=>(J8.pin (b,o) (Yc _ (Yc _ (dH hb e)))).1,fun b hb=>by
     obtain⟨o,e,d⟩:=T.obj _ _ st5 b hb
     exact(J8.pin (b,o) (Yc _ (Yc _ (dH hb e)))).2.1⟩
   cases ok with
   | false =>
    rw[if_neg (by decide)]at q7 ⊢
    obtain⟨hd,w7⟩:=q7;obtain⟨k1,k2⟩:=recs J7;exact⟨n0-(i+1),by lia,i+1,xs,its,nn,H7,wk J7.unpinned hd,T.keep _ _ _ st5 k1,k2,vs3,hz3,rfl,hin,w7⟩
   | true =>
    rw[if_pos rfl]at q7 ⊢;refine thn (he _ _ _ _ _ s7 σ6 H7 _ J7 q7) fun uy s8 zz9=>?_;obtain⟨y,H8,J8,r8,hd,w8⟩:=zz9;obtain⟨k1,k2⟩:=recs J8;obtain⟨eD,nD,_⟩:=J8.pin (s2.heap.objs.size,cz its nn) (by simp)
    have eD:s8.heap.get? s2.heap.objs.size=some (cz its nn):=eD;have nD:H8 s2.heap.objs.size=none:=nD;have hl3:=vs3.length;refine call_meets F.slot_list_append ⟨_,eD,rfl⟩ F.entry_list_append (F.args_list_append_2 _ _) (PySem.list_append s2.heap.objs.size its.toArray nn uy (by rw[Ya];lia)) ⟨eD,?_⟩
    have q:=PySem.IsL.update eD (fun a:Array Value=>a.push uy);have qe:its.toArray.push uy=(its++[uy]).toArray:=by simp
    rw[qe]at q;have oth:∀b o,b≠s2.heap.objs.size->s8.heap.get? b=some o->(s8.heap.update s2.heap.objs.size (Obj.mapSeq fun a=>a.push uy)).get? b=some o:=fun b o hb e=>(Heap.get?_update_other s8.heap _ (Ne.symm hb)).trans e;have J9:Inv (cxC X N scope G.objs.size s2 H2 fp) [] σ6 H8 { s8 with heap:=s8.heap.update s2.heap.objs.size (Obj.mapSeq fun a=>a.push uy),toks:=s8.toks } :=
     (J8.pins_of (pins':=[]) fun p hp=>absurd hp (by simp)).turned oth nD hDC (.inr (Xa _)) hDcell (fun p hp=>absurd hp (by simp))
    refine⟨n0-(i+1),by lia,i+1,xs++[y],its++[uy],_,H8,wk (pinD J9 q nD) hd,T.keep _ _ _ st5 fun b hb o e=>oth b o (fun z=>hDf (z ▸ hb)) (k1 b hb o e),k2,vs3.append (.cons r8 .nil),?_,rfl,hin,w8⟩
    rw[Wb,List.length_singleton];lia
 exact codeAny_compStart_list loop (T.self _ 0 _ _ _ (T.keep _ _ _ st2 fun b _ o e=>old b o e) loop)
theorem Inv.aside{X:Cx}{pins:List (Addr×Obj)}{σ:St}{H:Hp}{s:Shared}{C:Addr}{h':Heap}(I:Inv X pins σ H s)(a:ue X pins H C)(hs:Heap.SameBut C s.heap h'):Inv X pins σ H { s with heap:=h' } :=
 I.turned (t':=s.toks) (fun b o hb e=>hs.extBut b o hb e) a.1 a.2.1 a.2.2.1 a.2.2.2.1 a.2.2.2.2
theorem fB{X:Cx}{elt iter tg:Expr}{ifs:List Expr}{scope:Scope}{pos:Pos}{N:List Str}{k:Nat}{caps:List Nat}{wi:TI}{g:TG}{tc:TT}{te:TE}(S:BlkScope X N k caps scope)(hc:X.calm=true)(hi:PI X tg iter wi)
  (hg:∀C s H fp,PG (cxC X N scope C s H fp) tg g)(ht:∀C s H fp,PIf (cxC X N scope C s H fp) ifs tc)(he:∀C s H fp,PE (cxC X N scope C s H fp) elt te)
  (hs:∀x,foldedSetIterable iter X.env x=pure x:=by intro _;rfl):PE X (.ListComp elt [⟨tg,iter,ifs,0⟩] scope pos) (nP k caps wi g tc te):=by
 intro pins s σ H Q I h;rw[eval_ListComp];exact pX (use:=none) S hc hi hg ht he hs I h fun D C H4 s4 m I4 hm a q=>⟨m,hm,fun h' hs'=>⟨.ref D,H4,I4.aside a hs',rfl,q⟩⟩
end L2
namespace L2
open PySem PySem.Spec PyProof.Rows
noncomputable def Its(x:Str):It:=⟨fun i _=>i<x.cps.size,fun i H v H'=>H'=H/\∃c,x.cps[i]?=some c/\v=.str ⟨#[c]⟩,fun i _=>x.cps.size<=i⟩
theorem oV{P:Program}{w:World}{K:PySem.W.Frag}{tg:Expr}(it:Addr)(x:Str)(t:Tok):Turn P w K tg (Its x) [it] it (fun i h=>h.IsStrIter it "str_ascii_iterator" x t i) where
 mem:=by simp
 obj:=fun i h st b hb=>by
  have e:b=it:=by simpa using hb
  subst e;obtain⟨o,e,c,d⟩:=st;exact⟨o,e,fun v z=>by rw[d]at z;cases z⟩
 keep:=fun i h h' st k=>let ⟨o,ho,r⟩:=st;⟨o,k it (by simp) o ho,r⟩
 item:=by
  intro X hP hw hK hc i pins s σ H E I hf st hg;subst hP hw hK;obtain⟨f0,f1,f2,f3,f4,f5⟩:=hf it (by simp)
  have hg':i<x.cps.size:=hg;refine wpAny_pyNext_ascii_item st (c:=x.cps[i]) (by simp[hg']) fun h' st' sb=>?_
  have I1:Inv X pins σ H { s with heap:=h',toks:=s.toks+1 }:=I.turned (fun b o hb e=>sb.extBut b o hb e) f0 f1 f3 f4 f5;obtain⟨o,e,c,d⟩:=id st';exact⟨_,rfl,jK (s:={ s with heap:=h',toks:=s.toks+1 }) e c d (by decide) ⟨.str ⟨#[x.cps[i]]⟩,H,I1,⟨_,rfl⟩,⟨rfl,_,by simp[hg'],rfl⟩,st',fun b hb=>(hf b hb).1⟩⟩
 done:=by
  intro X hP hw hK hc i pins s σ H E I hf st hg;subst hP hw hK;obtain⟨f0,f1,f2,f3,f4,f5⟩:=hf it (by simp)
  have hg':x.cps.size<=i:=hg;exact wpAny_pyNext_ascii_end (I.ok.hd hc) st (by simp[hg']) fun h' eb=>⟨rfl,I.turned (t':=s.toks) (fun b o hb e=>eb b o hb e) f0 f1 f3 f4 f5⟩
 self:=fun _ _ _ _ _ st h=>wpAny_pyIter_striter_ascii st h
theorem oW{P:Program}{w:World}{K:PySem.W.Frag}{tg:Expr}(it:Addr)(x:Str)(t:Tok):Turn P w K tg (Its x) [it] it (fun i h=>h.IsStrIter it "str_iterator" x t i) where
 mem:=by simp
 obj:=fun i h st b hb=>by
  have e:b=it:=by simpa using hb
  subst e;obtain⟨o,e,c,d⟩:=st;exact⟨o,e,fun v z=>by rw[d]at z;cases z⟩
 keep:=fun i h h' st k=>let ⟨o,ho,r⟩:=st;⟨o,k it (by simp) o ho,r⟩
 item:=by
  intro X hP hw hK hc i pins s σ H E I hf st hg;subst hP hw hK;obtain⟨f0,f1,f2,f3,f4,f5⟩:=hf it (by simp)
  have hg':i<x.cps.size:=hg;refine wpAny_pyNext_wide_item st (c:=x.cps[i]) (by simp[hg']) fun h' st' sb=>?_
  have I1:Inv X pins σ H { s with heap:=h',toks:=s.toks+1 }:=I.turned (fun b o hb e=>sb.extBut b o hb e) f0 f1 f3 f4 f5;obtain⟨o,e,c,d⟩:=id st';exact⟨_,rfl,jK (s:={ s with heap:=h',toks:=s.toks+1 }) e c d (by decide) ⟨.str ⟨#[x.cps[i]]⟩,H,I1,⟨_,rfl⟩,⟨rfl,_,by simp[hg'],rfl⟩,st',fun b hb=>(hf b hb).1⟩⟩
 done:=by
  intro X hP hw hK hc i pins s σ H E I hf st hg;subst hP hw hK;obtain⟨f0,f1,f2,f3,f4,f5⟩:=hf it (by simp)
  have hg':x.cps.size<=i:=hg;exact wpAny_pyNext_wide_end (I.ok.hd hc) st (by simp[hg']) fun h' eb=>⟨rfl,I.turned (t':=s.toks) (fun b o hb e=>eb b o hb e) f0 f1 f3 f4 f5⟩
 self:=fun _ _ _ _ _ st h=>wpAny_pyIter_striter_wide st h
section
variable {X:Cx}{tg:Expr}
noncomputable def vk(tl:TE):TI:=fun σ H R=>tl σ H fun x H1=>∃z,x=.str z/\R (Its z) H1
theorem vm{l:Expr}{tl:TE}(hl:PE X l tl):PI X tg l (vk tl):=by
 intro pins s σ H R I h;refine thn (hl pins s σ H _ I h) fun v s1 zz9=>?_;obtain⟨x,H1,I1,r1,q1⟩:=zz9;obtain⟨z,e,q⟩:=q1;subst e;obtain⟨t,rfl⟩:=r1;have fpk:∀b∈[s1.heap.objs.size],jz X pins H1 b:=fun b hb=>by
  have e:b=s1.heap.objs.size:=by simpa using hb
  subst e;exact I1.fpOk (Xa _) (I1.hok.fresh (Xa _))
 cases ha:z.cps.all (·<128) with
 | true=>exact wpAny_pyIter_ascii ha ⟨s1.heap.objs.size,[s1.heap.objs.size],_,_,H1,rfl,I1.kept (t':=s1.toks) fun b o e=>Heap.get?_push_of_some _ e,oV _ z t,⟨_,Heap.get?_push_size _ rfl,rfl,rfl⟩,fpk,q⟩
 | false=>exact wpAny_pyIter_wide ha ⟨s1.heap.objs.size,[s1.heap.objs.size],_,_,H1,rfl,I1.kept (t':=s1.toks) fun b o e=>Heap.get?_push_of_some _ e,oW _ z t,⟨_,Heap.get?_push_size _ rfl,rfl,rfl⟩,fpk,q⟩
theorem range_all(bs:List Bool):(List.range bs.length).all (fun i=>bs.getD i true)=bs.all id:=by
 induction bs with
 | nil=>rfl
 | cons b r ih =>
  rw[Wh,List.range_succ_eq_map,Zk,List.all_map,Zk,← ih];rfl
theorem pY(hc:X.calm=true):CallR X (.builtin "all") (fun xs H Q=>∃(p:Addr)(bs:List Bool),xs=[.ref p]/\SqL X.K H p (bs.map V.bl)/\Q (.bl (bs.all id)) H):=by
 intro pins s σ H xs us Q I rv h;obtain⟨p,bs,rfl,hq,q⟩:=h;obtain⟨u,rfl,ru⟩:=vals1 rv;cases ru;obtain⟨its,r,pl,hz⟩:=I.list hq;have hlen:its.length=bs.length:=by have:=r.length;simpa using this.symm
 obtain⟨op,np,ep,cp,dp,sp⟩:=id pl;have hne:p≠s.heap.objs.size:=Xf (Heap.lt_size ep);refine call_all_walk (wpAny_pyIter_list pl.isList ?_);refine⟨s.heap.objs.size,_,_,_,_,_,fun i=>bs.getD i true,rfl,Walks.list (show X.A.in1.handled=none from I.ok.hd hc) s.heap.objs.size p hne its.toArray,⟨⟨_,Heap.get?_push_size _ rfl,rfl,rfl⟩,⟨op,Heap.get?_push_of_some _ ep,cp,np,sp⟩⟩,?_,fun h' tk kp=>?_⟩
 ·intro i v s' Q' E' hv hQ';have hv':its[i]?=some v:=by simpa using hv
  have hi:i<its.length:=(Wa.mp hv').1;have hb:(bs.map V.bl)[i]?=some (V.bl (bs[i]'(by lia))):=by
   rw[Qc,Va (by lia)];rfl
  obtain⟨u',e1,e2⟩:=r.get hb;rw[hv']at e1;cases e1;cases e2;have:bs.getD i true=bs[i]'(by lia):=by rw[List.getD_eq_getElem?_getD,Va (by lia)];rfl
  have hQ2:Q' (bs.getD i true) s':=hQ';rw[this]at hQ2;exact wpAny_truthy_bool hQ2
 ·have e:(List.range its.toArray.size).all (fun i=>bs.getD i true)=bs.all id:=by
   rw[Ya,hlen];exact range_all bs
  rw[e]
  exact⟨.bl (bs.all id),H,I.kept (fun b o e=>kp b o (by
   intro z;have z':b=s.heap.objs.size:=by simpa using z
   exact absurd (Heap.lt_size e) (by rw[z'];exact Qe _)) (Heap.get?_push_of_some _ e)),rfl,q⟩
theorem i4:∀{ys:List Str}{us:List Value},Vals (ys.map V.str) us->StrsAre us ys
 | [],_,r=>by cases r;exact .nil
 | y::ys,_,r=>by
  cases r with
  | cons a b =>
   obtain⟨t,rfl⟩:=a;exact .cons y t (i4 b)
theorem si:MtR X "str.join" (fun x vs H Q=>∃(sep:Str)(p:Addr)(ys:List Str),x=.str sep/\vs=[.ref p]/\SqL X.K H p (ys.map V.str)/\(ys.map (·.length)).sum+ys.length*sep.length<=16777216/\Q (.str (Txt.join sep ys)) H):=by
 intro pins s σ H x vs v us Q I rx rv h;obtain⟨sep,p,ys,rfl,rfl,hq,hz,q⟩:=h;obtain⟨t,rfl⟩:=rx;obtain⟨u,rfl,ru⟩:=vals1 rv;cases ru;obtain⟨its,r,pl,_⟩:=I.list hq;exact join_list pl.isList (i4 (by simpa using r)) hz fun t' k=>⟨.str _,H,I.tok k,⟨t',rfl⟩,q⟩
noncomputable def sgn(x:Str):List V:=x.cps.toList.map fun c=>.str ⟨#[c]⟩
theorem lw{x:Str}{acc:Array Value}(h:ItemsOf (SignAt x) acc x.cps.size):Vals (sgn x) acc.toList:=by
 obtain⟨h1,h2⟩:=h;have gen:∀(cs:List Nat)(us:List Value),us.length=cs.length->(∀(j:Nat) v,us[j]?=some v->∃c u,cs[j]?=some c/\v=Value.str ⟨#[c]⟩ u)->Vals (cs.map fun c=>V.str ⟨#[c]⟩) us:=by
  intro cs;induction cs with
  | nil=>intro us hl _;cases us with
   | nil=>exact .nil
   | cons _ _=>cases hl
  | cons c cs ih =>
   intro us hl hu;cases us with
   | nil=>cases hl
   | cons u us =>
    obtain⟨c',tk,e1,e2⟩:=hu 0 u rfl;have:c=c':=by simpa using e1
    subst this;subst e2;refine .cons ⟨tk,rfl⟩ (ih us (by simpa using hl) fun j v e=>?_)
    have:=hu (j+1) v (by simpa using e)
    simpa using this
 refine gen x.cps.toList acc.toList (by simp[h1]) fun j v e=>?_
 obtain⟨c,u,e1,e2⟩:=h2 j v (by simpa using e)
 exact⟨c,u,by simpa using e1,e2⟩
theorem nQ(x:Str):(sgn x).length=x.cps.size:=by simp[sgn]
theorem i5(hc:X.calm=true):CallR X (.type "list") (fun xs H Q=>∃z:Str,xs=[.str z]/\z.cps.size<=sizeLine/\∀l,H l=none->Q (.ref l) (upd H l (.lst (sgn z)))):=by
 intro pins s σ H xs us Q I rv h;obtain⟨z,rfl,hz,q⟩:=h;obtain⟨u,rfl,ru⟩:=vals1 rv;obtain⟨t,rfl⟩:=ru;refine call_list_str (I.ok.hd hc) z t (fun h' tk acc' c' kp hS hi=>?_) hz;refine⟨.ref s.heap.objs.size,upd H s.heap.objs.size (.lst (sgn z)),I.laid kp (Xa _) ⟨by rw[nQ];exact hz,acc'.toList,c',lw hi,by simpa using hS⟩,rfl,q _ (I.hok.fresh (Xa _))⟩
theorem ObjOk.there{P:Program}{w:World}{H:Hp}{h:Heap}{a:Addr}{o:HO}(x:ObjOk P w H h a o):∃ob,h.get? a=some ob:=by
 cases o with
 | lst xs=>obtain⟨_,_,_,_,e⟩:=x;exact⟨_,e⟩
 | tup xs=>obtain⟨_,_,_,o,e,_⟩:=x;exact⟨_,e⟩
 | dK kvs=>obtain⟨_,_,_,_,o,_,_,e,_⟩:=x;exact⟨_,e⟩
 | dT ep kvs=>obtain⟨_,_,_,_,_,o,_,e,_⟩:=x;exact⟨_,e⟩
 | set S n=>obtain⟨o,_,_,_,e,_⟩:=x;exact⟨_,e⟩
 | ins C dx fs=>obtain⟨_,_,_,e,_⟩:=x;exact⟨_,e⟩
 | own y=>exact x
 | xd fs=>obtain⟨_,⟨_,_,_,e,_⟩,_⟩:=x;exact⟨_,e⟩
 | rng lo hi=>obtain⟨_,_,_,e⟩:=x;exact⟨_,e⟩
 | frz ob u=>obtain⟨e,_⟩:=x;exact⟨_,e⟩
 | tbl ps=>exact⟨_,x⟩
 | met f y=>exact⟨_,x⟩
 | ext φ=>obtain⟨_,e,_⟩:=x;exact e
theorem Inv.laid2{pins:List (Addr×Obj)}{σ:St}{H:Hp}{s:Shared}{h':Heap}{a:Addr}{o:HO}{t':Nat}(I:Inv X pins σ H s)(k:∀b u,s.heap.get? b=some u->h'.get? b=some u)(hne:∀b u,s.heap.get? b=some u->b≠a)(hn:H a=none)(new:ObjOk X.prog X.w (upd H a o) h' a o) :
  Inv X pins σ (upd H a o) { s with heap:=h',toks:=t' }:=by
 refine I.un ⟨fun b u e _ _ _=>k b u e,fun b u e _ _ _=>⟨u.slots,k b u e⟩,fun b u e n _=>by rw[ao (hne b u e)];exact n,fun b u e _=>⟨u,k b u e⟩,fun b xs e=>by rw[ao (aR e hn)];exact e,fun b u v e=>by rw[ao (aR e hn)];exact e,fun b ps e=>⟨#[],by rw[ao (aR e hn),e];simp⟩⟩ ?_
 intro b u e;by_cases hb:b=a
 ·subst hb;rw[ay]at e;cases e;exact new
 ·rw[ao hb]at e;exact(I.hok b u e).stay (fun c v _ q=>k c v q) (fun c q=>by rw[ao (aR q hn)];exact q) fun c xs q=>by rw[ao (aR q hn)];exact q
theorem iD(hc:X.calm=true):CallR X (.type "tuple") (fun xs H Q=>∃z:Str,xs=[.str z]/\z.cps.size<=sizeLine/\∀l,H l=none->Q (.ref l) (upd H l (.tup (sgn z)))):=by
 intro pins s σ H xs us Q I rv h;obtain⟨z,rfl,hz,q⟩:=h;obtain⟨u,rfl,ru⟩:=vals1 rv;obtain⟨t,rfl⟩:=ru;refine call_tuple_str (I.ok.hd hc) z t (fun h' tk acc kp hi=>?_) hz;have hne:∀b u,s.heap.get? b=some u->b≠h'.objs.size:=fun b u e z=>absurd (Heap.lt_size (kp b u e)) (by rw[z];exact Qe _)
 have hn:H h'.objs.size=none:=by
  cases e:H h'.objs.size with
  | none=>rfl
  | some o =>
   obtain⟨ob,eo⟩:=(I.hok _ _ e).there;exact absurd rfl (hne _ _ eo)
 refine⟨.ref h'.objs.size,upd H h'.objs.size (.tup (sgn z)),I.laid2 (fun b u e=>Heap.get?_push_of_some _ (kp b u e)) hne hn ⟨by rw[nQ];exact hz,acc.toList,lw hi,⟨_,Heap.get?_push_size _ rfl,rfl,0,by simp⟩⟩,rfl,q _ hn⟩
theorem vn:SlR X (fun x lo hi H Q=>∃z:Str,x=.str z/\z.length<=sizeLine/\Q (.str (Txt.slice z lo hi)) H):=by
 intro pins s σ H x v vl vu lo hi sl Q I rx hs pl pu h;obtain⟨z,rfl,hz,q⟩:=h;obtain⟨t,rfl⟩:=rx;refine⟨"str",_,F.slot_str_getitem.lookup,typeIs_str _ _ _,?_⟩;have fin:∀(o p:Option Int),lo=o->hi=p->∀t' k,EP X pins σ Q (.str (Txt.slice z o p) t') { s with toks:=k }:=fun o p e1 e2 t' k=>⟨.str _,H,I.tok k,⟨t',rfl⟩,by rw[← e1,← e2];exact q⟩
 cases pl with
 | none =>
  cases pu with
  | none=>exact wpAny_getItem_str_slice (l:=none) (u:=none) (st:=none) hs rfl (post_val_or_str ⟨Vb (Txt.slice_le z _ _) hz,fun t' k=>fin _ _ rfl rfl t' k⟩)
  | int j uj=>exact wpAny_getItem_str_slice (l:=none) (u:=some (j,uj)) (st:=none) hs rfl (post_val_or_str ⟨Vb (Txt.slice_le z _ _) hz,fun t' k=>fin _ _ rfl rfl t' k⟩)
 | int i ui =>
  cases pu with
  | none=>exact wpAny_getItem_str_slice (l:=some (i,ui)) (u:=none) (st:=none) hs rfl (post_val_or_str ⟨Vb (Txt.slice_le z _ _) hz,fun t' k=>fin _ _ rfl rfl t' k⟩)
  | int j uj=>exact wpAny_getItem_str_slice (l:=some (i,ui)) (u:=some (j,uj)) (st:=none) hs rfl (post_val_or_str ⟨Vb (Txt.slice_le z _ _) hz,fun t' k=>fin _ _ rfl rfl t' k⟩)
theorem gY{α:Type}:∀l:List α,(List.range l.length).filterMap (fun k=>l[k]?)=l
 | []=>rfl
 | x::r=>by
  rw[Wh,List.range_succ_eq_map,Vg,List.filterMap_map];show x::List.filterMap (fun k=>(x::r)[k+1]?) _=_;have e:(fun k=>(x::r)[k+1]?)=fun k=>r[k]?:=by funext k;simp
  rw[e,gY r]
theorem dq{α β:Type}{f g:α->Option β}:∀{l:List α},(∀a∈l,f a=g a)->l.filterMap f=l.filterMap g
 | [],_=>rfl
 | a::r,h=>by
  rw[Vg,Vg,h a Wd,dq fun b hb=>h b (Xc _ hb)]
theorem pZ(its:List Value):slicePick its.toArray none none (some (-1))=its.reverse.toArray:=by
 unfold slicePick;have e:sliceBounds none none (some (-1)) its.toArray.size=((its.length:Int)-1,-1,-1):=by
  unfold sliceBounds;simp
 rw[e];have r:sliceRange ((its.length:Int)-1) (-1) (-1)=(List.range its.length).map fun k=>its.length-1-k:=by
  unfold sliceRange;have hc:(if (-1:Int) > 0 then(if ((its.length:Int)-1) < -1 then(-1-((its.length:Int)-1)+-1-1) / -1 else 0) else(if ((its.length:Int)-1) > -1 then(((its.length:Int)-1) - -1 - -1-1) / (- -1) else 0))=(its.length:Int):=by
   rw[if_neg (by decide)]
   rw[show(- -1:Int)=1 from rfl,Int.ediv_one];split<;>lia
  simp only[hc,Wj];refine Qi fun k hk=>?_;have:=Zi.mp hk;lia
 show((sliceRange ((its.length:Int)-1) (-1) (-1)).filterMap fun i=>its.toArray[i]?).toArray=_;rw[r,List.filterMap_map];congr 1;refine Eq.trans (dq (g:=fun k=>its.reverse[k]?) fun k hk=>?_) ?_
 ·have hk':=Zi.mp hk;show its.toArray[its.length-1-k]?=_;rw[Zh hk'];simp
 ·have:=gY its.reverse;rw[Ve]at this;exact this
noncomputable def uf(K:PySem.W.Frag)(te:TE):TE:=fun σ H Q=>te σ H fun x H1=>∃a xs,x=.ref a/\SqL K H1 a xs/\∀p,H1 p=none->Q (.ref p) (upd H1 p (.lst xs.reverse))
theorem vo{e:Expr}{te:TE}{j:Nat}{p1 p2 p3 pos:Pos}(he:PE X e te):PE X (.Subscript e (.Slice none none (some (.UnaryOp .USub (.Constant (.int 1) j p1) p2)) p3) pos) (uf X.K te):=by
 intro pins s σ H Q I h;refine Subscript_ (thn (he pins s σ H _ I h) fun v s1 zz9=>?_);obtain⟨x,H1,I1,r1,q1⟩:=zz9;obtain⟨a,xs,rfl,hx,q⟩:=q1;cases r1;refine wpAny_Slice ?_;rw[evalPart_none];refine wpAny_pure ?_;refine wpAny_pure ?_;rw[evalPart_some];refine UnaryOp_ (wpAny_Constant_int (neg_int ?_));have I2:=I1.tok (s1.toks+1+1);have I4:=I2.kept (t':=s1.toks+1+1) (h':=s1.heap.push { cls:=.type "slice",data:=.fields #[.none,.none,.int (-1) (s1.toks+1)] }) fun b ob q=>Heap.get?_push_of_some _ q;obtain⟨its,r,ht,hz⟩:=I4.list hx;have hlen:=r.length;refine tail_any (ops:=[.ref a,.ref s1.heap.objs.size]) ht.isList.typeIs slot_list_getitem.lookup ?_ (by with_unfolding_all rfl)
 refine wpAny_getItem_list_slice ht.isList (Heap.IsSliceOf.new ..) .none .none (.int (-1) _) (by simp) ?_ (by rw[Ya]<;>lia)
 rw[pZ];refine⟨.ref _,_,I4.laid (t':=s1.toks+1+1) (o:=.lst xs.reverse) (fun b ob q=>Heap.get?_push_of_some _ q) (Xa _) ?_,rfl,q _ (I4.hok.fresh (Xa _))⟩;exact⟨by rw[Ve];exact hz,_,0,r.reverse,Heap.get?_push_size _ rfl⟩
end
end L2
namespace L2
open PySem PySem.Spec PyProof.Rows
structure Cal(P:Program)(w:World)(K:PySem.W.Frag)(mg:Str->Option Value)(base:Heap)(x:Str)(k:Nat)(ps:List Str)(sp:Sp):Prop where
 ex:∃f fd,FnOk P w K mg base CX0 k f fd ps sp/\mg x=some (.ref f)/\PySem.W.keepIn K (.ref f)=true/\Binds K fd ps []
noncomputable def oX(sp:Sp)(t:TA):TE:=fun σ H Q=>t σ H fun vs H1=>sp vs H1 Q E0
section
variable {X:Cx}
theorem aD{x:Str}{k k':Nat}{ps:List Str}{sp:Sp}{e:Expr}{es:List Expr}{t:TA}{p pos:Pos}(C:Cal X.prog X.w X.K X.mg X.base x k ps sp)(hr:Room k' X.A)(hg:Gl X x)(ha:PA X (e::es) t)(hk:k<=k':=by decide)
  (hdb:(x == ("__debug__":Str))=false:=by decide) (he:starEach (e::es) X.env=(false,eval e X.env)::starEach es X.env:=by rfl) (hpl:(backTo pos (starEach es X.env)).any (·.1)=false:=by rfl) :
  PE X (.Call (.Name x p) (e::es) [] pos) (oX sp t):=by
 obtain⟨f,fd,F,hm,hkp,hb⟩:=C.ex;intro pins s σ H Q I h;refine r6 F (hr.mono hk) hg hm hkp hb .nil wE ha hdb he hpl pins s σ H Q I ?_;have e0:oX sp t=pO sp [] E0 t:=by
  funext σ H Q
  unfold oX pO;simp only[Xe]
 rw[e0]at h;exact h
noncomputable def noStar:Expr->Bool
 | .Starred ..=>false
 | _=>true
theorem jS{e:Expr}{es:List Expr}{env:Env}(h:noStar e=true):starEach (e::es) env=(false,eval e env)::starEach es env:=by
 cases e<;>first|rfl|cases h
theorem aj{e:Expr}{es:List Expr}{te:TE}{t:TA}(ha:PE X e te)(hr:PA X es t)(h:noStar e=true:=by rfl):PA X (e::es) (cE te t):=kn ha hr (jS h)
noncomputable def strsOf:List Expr->Option (List Str)
 | []=>some []
 | .Constant (.str x) _ _::r=>(strsOf r).map (x::·)
 | _=>none
noncomputable def ug(xs:List Str):TA:=fun _ H Q=>Q (xs.map V.str) H
theorem kz:∀{es:List Expr}{xs:List Str},strsOf es=some xs->PA X es (ug xs)
 | [],xs,h=>by
  have e:xs=[]:=(Option.some.inj h).symm;subst e;exact fun pos pins s σ H Q I q=>ag pos pins s σ H Q I q
 | e::r,xs,h=>by
  cases e with
  | Constant c j p =>
   cases c with
   | str x =>
    have h':(strsOf r).map (x::·)=some xs:=h;obtain⟨ys,h1,h2⟩:=We.mp h';subst h2;intro pos pins s σ H Q I q;exact kn (bB (x:=x)) (kz h1) (jS rfl) pos pins s σ H Q I q
   | _=>cases h
  | _=>cases h
theorem bt(i:Nat){e:Expr}{te:TE}{x:Str}{pos' pos:Pos}(hN:X.N.Nodup)(he:PE X e te)(hi:X.N[i]?=some x:=by rfl)(hx:Loc X.env.scope x:=by first|exact Or.inl rfl|exact Or.inr rfl)(hf:X.fn x=true∨X.env.scope.names.lookup x=some .local:=by first|exact .inl rfl|exact .inr rfl|assumption)
  (hs:swapsWithSole [.Name x pos'] e pos.line X.env=pure false:=by rfl) (hw:swappedStores [.Name x pos'] e X.env=pure none:=by rfl) (h1:(assignEach [.Name x pos'] X.env).map (·.2)=[assign (.Name x pos') X.env]:=by rfl) :
  PS X (.Assign [.Name x pos'] e pos) (pH te (jJ i)):=dG he (kl hN hi hx hf) hs hw h1
theorem gz(i:Nat){x:Str}{pos:Pos}(hN:X.N.Nodup)(hi:X.N[i]?=some x:=by rfl)(hx:Loc X.env.scope x:=by first|exact Or.inl rfl|exact Or.inr rfl)(hf:X.fn x=true∨X.env.scope.names.lookup x=some .local:=by first|exact .inl rfl|exact .inr rfl|assumption):PG X (.Name x pos) (jJ i):=kl hN hi hx hf
end
theorem cO:bootBuiltins "list"=some (.type "list"):=by decide +kernel
theorem b9:bootBuiltins "tuple"=some (.type "tuple"):=by decide +kernel
theorem jT:bootBuiltins "str"=some (.type "str"):=by decide +kernel
theorem jU:bootBuiltins "int"=some (.type "int"):=by decide +kernel
theorem dL:bootBuiltins "bool"=some (.type "bool"):=by decide +kernel
theorem vp{K:PySem.W.Frag}{T S:String}{b:Bool}(h:(if (Value.type T == Value.type S)=true then some true else if PySem.W.kitMeta S=true then(fastBuiltinMro T).map (·.contains (Value.type S)) else none)=some b):PySem.W.kitOne K (.type T) (.type S)=some b:=h
theorem boot_isinstance:bootBuiltins "isinstance"=some (.builtin "isinstance"):=by decide +kernel
theorem boot_all:bootBuiltins "all"=some (.builtin "all"):=by decide +kernel
noncomputable def uh(osc:Scope)(ON N:List Str)(k:Nat)(caps:List Nat)(scope:Scope):Bool :=
 decide (scope.kind=.function)&&scope.names.all (fun y=>decide (y.2≠.cell))&&scope.names.all (fun y=>decide (y.2=.local->scope.names.lookup y.1=some .local)) &&
 scope.names.all (fun y=>decide (y.2=.free->(osc.names.lookup y.1=some .cell∨osc.names.lookup y.1=some .free)))&&decide (N.length=k+caps.length) &&
 (List.range caps.length).all fun j=>match caps[j]?,N[k+j]? with
  | some i,some x=>decide (ON[i]?=some x)&&decide (scope.names.lookup x=some .free)
  | _,_=>false
theorem gZ{X:Cx}{osc:Scope}{ON N:List Str}{k:Nat}{caps:List Nat}{scope:Scope}(h:uh osc ON N k caps scope=true)(ho:X.env.scope=osc)(hN:X.N=ON):BlkScope X N k caps scope:=by
 unfold uh at h;simp only[Vc,decide_eq_true_eq,Vi]at h;obtain⟨⟨⟨⟨⟨h1,h2⟩,h3⟩,h4⟩,h5⟩,h6⟩:=h;refine⟨h1,h2,h3,fun y hy hf=>?_,h5,fun j i hj=>?_⟩
 ·show X.env.scope.names.lookup y.1=_∨X.env.scope.names.lookup y.1=_;rw[ho];exact h4 y hy hf
 ·have hlt:j<caps.length:=(Wa.mp hj).1;have q:=h6 j (Zi.mpr hlt);rw[hj]at q;cases e:N[k+j]? with
  | none=>rw[e]at q;cases q
  | some x =>
   rw[e]at q;have q':(decide (ON[i]?=some x)&&decide (scope.names.lookup x=some .free))=true:=q;simp only[Vc,decide_eq_true_eq]at q';exact⟨x,rfl,by rw[hN];exact q'.1,q'.2⟩
theorem aY{H:Hp}{p:Addr}(h:H p=none)(o:HO):Same H (upd H p o):=fun b u q=>by rw[ao (aR q h)];exact q
theorem wG{α:Type}{x:α}{r:List α}:atI (x::r) 0=some x:=gx (j:=0) rfl
theorem kA{α:Type}{xs:List α}{i:Int}(h0:0<=i)(h1:i<xs.length):∃v,atI xs i=some v/\v∈xs/\xs[i.toNat]?=some v:=by
 have hk:i.toNat<xs.length:=by lia
 have ek:i=((i.toNat:Nat):Int):=by lia
 refine⟨xs[i.toNat],?_,List.getElem_mem hk,Va hk⟩;have q:atI xs ((i.toNat:Nat):Int)=some xs[i.toNat]:=gx (Va hk);rw[← ek]at q;exact q
end L2
namespace L2
open PySem PySem.Spec PyProof.Rows
section
variable {X:Cx}
theorem jC:MtR X "str.startswith" (fun x vs H Q=>∃(a b:Str),x=.str a/\vs=[.str b]/\Q (.bl (Txt.startswith a b)) H):=by
 intro pins s σ H x vs v us Q I rx rv h;obtain⟨a,b,rfl,rfl,q⟩:=h;obtain⟨t,rfl⟩:=rx;obtain⟨u,rfl,ru⟩:=vals1 rv;obtain⟨t',rfl⟩:=ru;exact SC.startswith ⟨.bl _,H,I,rfl,q⟩
theorem mulOk_of{x:Str}{n:Int}(h0:0<=n)(hn:n<=1000)(hx:x.length<=1000):MulOk x n:=by
 have hx':(x.length:Int)<=1000:=by lia
 have hm:(x.length:Int)*n<=1000*1000:=Int.mul_le_mul hx' hn h0 (by decide)
 have hm2:x.length*n.toNat<=1000*1000:=Nat.mul_le_mul hx (by lia)
 refine⟨?_,fun h1 _=>?_,fun h1 h2=>?_⟩
 ·rw[decide_eq_false (by lia),decide_eq_false (by lia)];rfl
 ·have:(x.length:Int)<=(2 ^ 63-1) / n:=(Int.le_ediv_iff_mul_le (by lia)).mpr (Int.le_trans hm (by decide))
  lia
 ·unfold Builtin.Str.tooLong;have:=oU (Xa 1000);exact decide_eq_false (by rw[sizeLine_eq];lia)
theorem mD:OpR X (binaryOp .Mult) (fun x y H Q=>∃(a:Str)(n:Int),x=.str a/\y=.int n/\MulOk a n/\Q (.str (Txt.mul a n)) H):=by
 intro pins s σ H x y v u Q I rx ry h;obtain⟨a,n,rfl,rfl,hok,q⟩:=h;obtain⟨t,rfl⟩:=rx;obtain⟨t',rfl⟩:=ry;exact SB.mul hok fun t2 k=>⟨.str _,H,I.tok k,⟨t2,rfl⟩,q⟩
theorem vq(hu:X.A.units<cLine):OpR X (compareOp .NotEq) (fun x y H Q=>∃(a b:Addr)(xs:List V),x=.ref a/\y=.ref b/\SqL X.K H a xs/\SqL X.K H b []/\Q (.bl (!xs.isEmpty)) H):=by
 intro pins s σ H x y v u Q I rx ry h;obtain⟨a,b,xs,rfl,rfl,ha,hb,q⟩:=h;cases rx;cases ry;obtain⟨its,r,pl,_⟩:=I.list ha;obtain⟨its2,r2,pl2,_⟩:=I.list hb;cases r2;cases xs with
 | nil =>
  cases r;exact SeqAt.RcNeAt.lists (e:=fun _=>true) pl.isList pl2.isList rfl hu (fun j h1 _=>absurd h1 (by simp)) _ _ _ _ ⟨.bl _,H,I,rfl,q⟩
 | cons x1 xr =>
  cases r;exact SeqAt.RcNeAt.lists_lengths pl.isList pl2.isList (by simp) hu _ _ _ _ ⟨.bl _,H,I,rfl,q⟩
end
theorem ax{X:Cx}{K:PySem.W.Frag}(h:X.K=K):IxR X (rIx K):=h ▸ vc
structure FunD(K:PySem.W.Frag)(x qual:Str)(st:Stmt)(ds:List Value)(f:Addr)(fd:FuncData):Prop where
 ex:∃(oc:Value)(od:Option Addr)(T:Addr)(oT:Obj)(nT:Nat)(kV doc pm:Value)(an:Option Addr)(cdv ct:Value)(osl:Array (Option Value)),
  fd=PySem.W.fnOf x qual (cF st) (bK st) (ak st) (.ref T) kV doc pm an cdv ct/\K.lookup f=some ⟨oc,od,.func fd,osl⟩/\PySem.W.codeIn K cdv qual=true/\K.lookup T=some oT/\oT.data=.seq ds.toArray nT
 kp:PySem.W.keepIn K (.ref f)=true
section
variable {P:Program}{w:World}{K:PySem.W.Frag}{mg:Str->Option Value}{base:Heap}
theorem FunD.ok{x qual:Str}{st:Stmt}{ds:List Value}{f:Addr}{fd:FuncData}{N ps:List Str}{k:Nat}{sp:Sp}(F:FunD K x qual st ds f fd)(S:FnScope N ps (ak st))(len:∀vs H Q E,sp vs H Q E->vs.length=ps.length)
  (hbody:∀(cdv:Value)(A:Around)(outer:List Env)(s:Shared)(H:Hp)(vs:List V)(Q:VK)(E:XK),Room k (A.deeper (envOfC qual (ak st) s.heap.objs.size f cdv))->sp vs H Q E ->
   ∃t,PSs (d8 CX0 P w K mg base N qual (ak st) f cdv A outer s H E).nox (bK st) t/\t { nx:=fun _ H'=>Q .non H',rt:=Q } (start N vs) H):FnOk P w K mg base CX0 (k+1) f fd ps sp:=by
 obtain⟨oc,od,T,oT,nT,kV,doc,pm,an,cdv,ct,osl,rfl,lk,hcd,_,_⟩:=F.ex;refine pP lk hcd S len fun A outer s H vs Q E hr hsp=>?_;obtain⟨t,h,q⟩:=hbody cdv A outer s H vs Q E hr hsp;exact⟨t,h.nox,q⟩
theorem FunD.binds{x qual:Str}{st:Stmt}{ds:List Value}{f:Addr}{fd:FuncData}{ps:List Str}(F:FunD K x qual st ds f fd)
  (h:∀(T:Addr)(kV doc pm:Value)(an:Option Addr)(cdv ct:Value)(us:List Value),(us++ds).length=ps.length ->
   ∃k:Option (Array Value)->Sem (List (Str×Value)),bindArgs (PySem.W.fnOf x qual (cF st) (bK st) (ak st) (.ref T) kV doc pm an cdv ct) ⟨us,[]⟩=seqItems? (.ref T) >>= k/\k (some ds.toArray)=pure (ps.zip (us++ds))):Binds K fd ps ds:=by
 obtain⟨oc,od,T,oT,nT,kV,doc,pm,an,cdv,ct,osl,rfl,lk,hcd,hT,hS⟩:=F.ex;intro s us hK hl;obtain⟨k,h1,h2⟩:=h T kV doc pm an cdv ct us hl;exact BindsTo.of_defaults (T:=T) rfl (hK T oT hT) hS h1 h2
end
theorem ly{α:Type}[DecidableEq α]:∀(l m:List α),l.Nodup->(∀x∈l,x∈m)->l.length<=m.length
 | [],_,_,_=>Vj _
 | a::l,m,h,hs=>by
  have hm:a∈m:=hs a Wd;have h1:=Qg.mp h;have ih:=ly l (m.erase a) h1.2 fun x hx=>by
   have hne:x≠a:=fun e=>h1.1 (e ▸ hx);exact(List.mem_erase_of_ne hne).mpr (hs x (Xc _ hx))
  have hl:=List.length_erase_of_mem hm;have hp:0<m.length:=List.length_pos_of_mem hm;rw[Wh];lia
end L2
namespace VF
open PySem L2
noncomputable abbrev AS:=Addr->Prop
theorem bsP{α β γ:Type}{o:Option (α×β)}{f:α×β->Option γ}{z:γ}{P:Prop}(h:o.bind f=some z)(k:∀a b,o=some (a,b)->f (a,b)=some z->P):P:=by
 obtain⟨⟨a,b⟩,e,h⟩:=Option.bind_eq_some_iff.mp h;exact k a b e h
theorem bsO{α γ:Type}{o:Option α}{f:α->Option γ}{z:γ}{P:Prop}(h:o.bind f=some z)(k:∀a,o=some a->f a=some z->P):P:=by
 obtain⟨a,e,h⟩:=Option.bind_eq_some_iff.mp h;exact k a e h
theorem aE{α:Type}{c:Prop}{i:Decidable c}{x:Option α}{z:α}(h:(if c then x else none)=some z):c/\x=some z:=by
 by_cases q:c
 ·rw[if_pos q]at h;exact⟨q,h⟩
 ·rw[if_neg q]at h;cases h
noncomputable abbrev U(O Z:AS):AS:=fun p=>O p∨Z p
noncomputable abbrev ins(p:Addr)(O:AS):AS:=fun b=>b=p∨O b
inductive D where
 | non|bl (b:Bool)|int (i:Int)|str (x:Str)|tup (ds:List D)|lst (ds:List D)|fl (ds:List D)|ty (n:String)|dk (kvs:List (Key×D))|dt (kvs:List (List Key×D))
noncomputable def TupA(K:PySem.W.Frag)(Y:AS)(H:Hp)(a:Addr)(vs:List V):Prop:=H a=some (.tup vs)/\¬ Y a
noncomputable def LstA(K:PySem.W.Frag)(Y:AS)(H:Hp)(a:Addr)(vs:List V):Prop:=(Rd H a (.lst vs)/\¬ Y a)∨∀H',SqL K H' a vs
theorem TupA.sq{K:PySem.W.Frag}{Y:AS}{H:Hp}{a:Addr}{vs:List V}(h:TupA K Y H a vs):SqT K H a vs:=.inl (.inl h.1)
theorem LstA.sq{K:PySem.W.Frag}{Y:AS}{H:Hp}{a:Addr}{vs:List V}(h:LstA K Y H a vs):SqL K H a vs:=by
 rcases h with h|h
 ·exact .inl h.1
 ·exact h H
noncomputable def KA(Y:AS)(H:Hp)(as:List Addr):Prop:=∀b∈as,¬ Y b/\H b≠none
theorem KA.go{Y Y':AS}{H H':Hp}{as:List Addr}(h:KA Y H as)(k:∀b o,H b=some o->¬ Y b->H' b=some o)(n:∀b,Y' b->Y b∨H b=none):KA Y' H' as:=fun b hb=>by
 obtain⟨h1,h2⟩:=h b hb;refine⟨fun z=>(n b z).elim h1 h2,?_⟩;cases e:H b with
 | none=>exact absurd e h2
 | some o=>rw[k b o e h1];simp
theorem KA.less{Y Y':AS}{H:Hp}{as:List Addr}(h:KA Y H as)(n:∀b,Y' b->Y b):KA Y' H as:=fun b hb=>⟨fun z=>(h b hb).1 (n b z),(h b hb).2⟩
inductive DA(K:PySem.W.Frag)(Y:AS)(H:Hp):V->D->Prop where
 | non:DA K Y H .non .non
 | bl (b:Bool):DA K Y H (.bl b) (.bl b)
 | int (i:Int):DA K Y H (.int i) (.int i)
 | str (x:Str):DA K Y H (.str x) (.str x)
 | tup {a:Addr} {vs:List V} {ds:List D}:TupA K Y H a vs->vs.length=ds.length->(∀(i:Nat) v d,vs[i]?=some v->ds[i]?=some d->DA K Y H v d)->DA K Y H (.ref a) (.tup ds)
 | ty (n:String):DA K Y H (.ty n) (.ty n)
 | lst {a:Addr} {vs:List V} {ds:List D}:¬ Y a->H a=some (.lst vs)->vs.length=ds.length->(∀(i:Nat) v d,vs[i]?=some v->ds[i]?=some d->DA K Y H v d)->DA K Y H (.ref a) (.lst ds)
 | fl {a:Addr} {vs:List V} {ds:List D}:LstA K Y H a vs->vs.length=ds.length->(∀(i:Nat) v d,vs[i]?=some v->ds[i]?=some d->DA K Y H v d)->DA K Y H (.ref a) (.fl ds)
 | dk {a:Addr} {kvs:List (Key×V)} {ds:List (Key×D)}:¬ Y a->H a=some (.dK kvs)->kvs.map (·.1)=ds.map (·.1)->(∀(i:Nat) v d,kvs[i]?=some v->ds[i]?=some d->DA K Y H v.2 d.2)->DA K Y H (.ref a) (.dk ds)
 | dt {a:Addr} {ep:Nat×List Addr} {kvs:List (List Key×V)} {ds:List (List Key×D)}:¬ Y a->KA Y H ep.2->H a=some (.dT ep kvs)->kvs.map (·.1)=ds.map (·.1)->(∀(i:Nat) v d,kvs[i]?=some v->ds[i]?=some d->DA K Y H v.2 d.2)->DA K Y H (.ref a) (.dt ds)
noncomputable def El(K:PySem.W.Frag)(Y:AS)(H:Hp)(vs:List V)(ds:List D):Prop:=vs.length=ds.length/\∀(i:Nat) v d,vs[i]?=some v->ds[i]?=some d->DA K Y H v d
noncomputable def Lv(H:Hp)(p:Addr):Prop:=H p≠none/\∀vs,H p≠some (.tup vs)
theorem Lv.same{H H':Hp}{p:Addr}(h:Lv H p)(s:∀o,H p=some o->H' p=some o):Lv H' p:=by
 cases e:H p with
 | none=>exact absurd e h.1
 | some o =>
  refine⟨by rw[s o e];simp,fun vs z=>h.2 vs ?_⟩
  rw[s o e]at z;rw[e];exact z
structure Ext(O:AS)(H:Hp)(O':AS)(H':Hp):Prop where
 kp:∀b o,H b=some o->¬ O b->H' b=some o
 nw:∀b,O' b->O b∨H b=none
 al:∀b,H b≠none->H' b≠none
 lv:∀b,Lv H b->Lv H' b
section
variable {K:PySem.W.Frag}{Y Y' O O' O1 O2 Z:AS}{H H' H1 H2:Hp}{v:V}{d:D}{vs:List V}{ds:List D}{a p:Addr}
theorem Ext.refl(O:AS)(H:Hp):Ext O H O H:=⟨fun _ _ h _=>h,fun _ h=>.inl h,fun _ h=>h,fun _ h=>h⟩
theorem Ext.trans(a:Ext O H O1 H1)(b:Ext O1 H1 O2 H2):Ext O H O2 H2:=by
 refine⟨fun c o h n=>b.kp c o (a.kp c o h n) fun z=>?_,fun c h=>?_,fun c h=>b.al c (a.al c h),fun c h=>b.lv c (a.lv c h)⟩
 ·rcases a.nw c z with q|q
  ·exact n q
  ·rw[h]at q;cases q
 ·rcases b.nw c h with q|q
  ·exact a.nw c q
  ·right;cases e:H c with
   | none=>rfl
   | some o=>exact absurd q (a.al c (by rw[e];simp))
theorem Same.ext(h:Same H H'):Ext O H O H':=⟨fun b o e _=>h b o e,fun _ z=>.inl z,fun b z=>by
 cases e:H b with
 | none=>exact absurd e z
 | some o=>rw[h b o e];simp,fun b z=>z.same fun o e=>h b o e⟩
theorem Rd.keep{u:HO}(r:Rd H a u)(k:∀o,H a=some o->H' a=some o):Rd H' a u:=by
 rcases r with r|⟨o,r⟩
 ·exact .inl (k _ r)
 ·exact .inr ⟨o,k _ r⟩
theorem Rd.live{u:HO}(r:Rd H a u):H a≠none:=by
 rcases r with r|⟨o,r⟩<;>(rw[r];simp)
theorem TupA.go(h:TupA K Y H a vs)(k:∀b o,H b=some o->¬ Y b->H' b=some o)(n:∀b,Y' b->Y b∨H b=none):TupA K Y' H' a vs:=by
 obtain⟨h1,h2⟩:=h;refine⟨k a _ h1 h2,fun z=>?_⟩;rcases n a z with q|q
 ·exact h2 q
 ·rw[h1]at q;cases q
theorem LstA.go(h:LstA K Y H a vs)(k:∀b o,H b=some o->¬ Y b->H' b=some o)(n:∀b,Y' b->Y b∨H b=none):LstA K Y' H' a vs:=by
 rcases h with⟨h1,h2⟩|h
 ·refine .inl ⟨Rd.keep h1 fun o e=>k a o e h2,fun z=>?_⟩;rcases n a z with q|q
  ·exact h2 q
  ·exact Rd.live h1 q
 ·exact .inr h
theorem DA.go(h:DA K Y H v d)(k:∀b o,H b=some o->¬ Y b->H' b=some o)(n:∀b,Y' b->Y b∨H b=none):DA K Y' H' v d:=by
 have no:∀a u,H a=some u->¬ Y a->¬ Y' a:=fun a u e ny z=>by
  rcases n a z with q|q
  ·exact ny q
  ·rw[e]at q;cases q
 induction h with
 | non=>exact .non
 | bl b=>exact .bl b
 | int i=>exact .int i
 | str x=>exact .str x
 | tup h1 h2 _ ih=>exact .tup (h1.go k n) h2 ih
 | ty n=>exact .ty n
 | lst h0 h1 h2 _ ih=>exact .lst (no _ _ h1 h0) (k _ _ h1 h0) h2 ih
 | fl h1 h2 _ ih=>exact .fl (h1.go k n) h2 ih
 | dk h0 h1 h2 _ ih=>exact .dk (no _ _ h1 h0) (k _ _ h1 h0) h2 ih
 | dt h0 ka h1 h2 _ ih=>exact .dt (no _ _ h1 h0) (ka.go k n) (k _ _ h1 h0) h2 ih
theorem DA.ext(h:DA K (U O Z) H v d)(e:Ext O H O' H'):DA K (U O' Z) H' v d :=
 h.go (fun b o q n=>e.kp b o q fun z=>n (.inl z)) fun b z=>z.elim (fun q=>(e.nw b q).elim (fun x=>.inl (.inl x)) .inr) fun q=>.inl (.inr q)
theorem DA.less(h:DA K Y H v d)(n:∀b,Y' b->Y b):DA K Y' H v d:=h.go (fun _ _ e _=>e) fun b z=>.inl (n b z)
theorem DA.same(h:DA K Y H v d)(s:Same H H'):DA K Y H' v d:=h.go (fun b o e _=>s b o e) fun _ z=>.inl z
theorem DA.away(h:DA K Y H v d)(s:Same H H')(hp:H p=none):DA K (ins p Y) H' v d:=h.go (fun b o e _=>s b o e) fun b z=>z.elim (fun q=>.inr (q ▸ hp)) .inl
theorem El.go(h:El K Y H vs ds)(k:∀b o,H b=some o->¬ Y b->H' b=some o)(n:∀b,Y' b->Y b∨H b=none):El K Y' H' vs ds:=⟨h.1,fun i v d a b=>(h.2 i v d a b).go k n⟩
theorem El.ext(h:El K (U O Z) H vs ds)(e:Ext O H O' H'):El K (U O' Z) H' vs ds:=⟨h.1,fun i v d a b=>(h.2 i v d a b).ext e⟩
theorem El.less(h:El K Y H vs ds)(n:∀b,Y' b->Y b):El K Y' H vs ds:=⟨h.1,fun i v d a b=>(h.2 i v d a b).less n⟩
theorem El.same(h:El K Y H vs ds)(s:Same H H'):El K Y H' vs ds:=⟨h.1,fun i v d a b=>(h.2 i v d a b).same s⟩
theorem El.away(h:El K Y H vs ds)(s:Same H H')(hp:H p=none):El K (ins p Y) H' vs ds:=⟨h.1,fun i v d a b=>(h.2 i v d a b).away s hp⟩
theorem El.nil:El K Y H [] []:=⟨rfl,fun i v d h=>by simp at h⟩
theorem El.cons(h:DA K Y H v d)(r:El K Y H vs ds):El K Y H (v::vs) (d::ds):=by
 refine⟨by simp[r.1],fun i v' d' h1 h2=>?_⟩
 cases i with
 | zero =>
  have e1:v=v':=by simpa using h1
  have e2:d=d':=by simpa using h2
  subst e1 e2;exact h
 | succ i=>exact r.2 i v' d' (by simpa using h1) (by simpa using h2)
theorem El.uncons{vs:List V}{d:D}{ds:List D}(h:El K Y H vs (d::ds)):∃v r,vs=v::r/\DA K Y H v d/\El K Y H r ds:=by
 cases vs with
 | nil=>have:=h.1;simp at this
 | cons v r =>
  refine⟨v,r,rfl,h.2 0 v d rfl rfl,?_,fun i v' d' h1 h2=>h.2 (i+1) v' d' (by simpa using h1) (by simpa using h2)⟩
  have:=h.1;simpa using this
theorem El.unnil{vs:List V}(h:El K Y H vs []):vs=[]:=by
 have:=h.1;simpa using this
theorem El.app{vs ws:List V}{ds es:List D}(h:El K Y H vs ds)(r:El K Y H ws es):El K Y H (vs++ws) (ds++es):=by
 refine⟨by simp[h.1,r.1],fun i v d h1 h2=>?_⟩
 by_cases hi:i<vs.length
 ·rw[Xd hi]at h1;rw[Xd (by rw[← h.1];exact hi)]at h2
  exact h.2 i v d h1 h2
 ·rw[Qb (by lia)]at h1
  rw[Qb (by rw[← h.1];lia),← h.1]at h2
  exact r.2 _ v d h1 h2
theorem El.at(h:El K Y H vs ds){i:Nat}{d:D}(e:ds[i]?=some d):∃v,vs[i]?=some v/\DA K Y H v d:=by
 have hi:i<ds.length:=(Wa.mp e).1;have hv:i<vs.length:=by rw[h.1];exact hi
 exact⟨vs[i],Va hv,h.2 i _ d (Va hv) e⟩
theorem El.one(h:DA K Y H v d):El K Y H [v] [d]:=El.cons h El.nil
theorem El.rev(h:El K Y H vs ds):El K Y H vs.reverse ds.reverse:=by
 refine⟨by simp[h.1],fun i v d h1 h2=>?_⟩
 have hi:i<vs.length:=by
  have:=(Wa.mp h1).1;simpa using this
 rw[Zh hi]at h1;rw[Zh (by rw[← h.1];exact hi),← h.1]at h2
 exact h.2 _ v d h1 h2
set_option tactic.hygienic true in
theorem El.take(h:El K Y H vs ds)(n:Nat):El K Y H (vs.take n) (ds.take n):=by
 refine⟨by simp[h.1],fun i v d h1 h2=>?_⟩
 rw[List.getElem?_take]at h1 h2;split at h1
 ·rename_i q;rw[if_pos q]at h2;exact h.2 i v d h1 h2
 ·cases h1
theorem El.drop(h:El K Y H vs ds)(n:Nat):El K Y H (vs.drop n) (ds.drop n):=by
 refine⟨by simp[h.1],fun i v d h1 h2=>?_⟩
 rw[Zf]at h1 h2;exact h.2 _ v d h1 h2
theorem El.set(h:El K Y H vs ds)(hv:DA K Y H v d)(j:Nat):El K Y H (vs.set j v) (ds.set j d):=by
 refine⟨by simp[h.1],fun i v' d' h1 h2=>?_⟩
 rw[Xh]at h1 h2;by_cases e:j=i
 ·rw[if_pos e]at h1 h2;obtain⟨hl,h1⟩:=aE h1;rw[if_pos (by rw[← h.1];exact hl)]at h2
  have e1:v=v':=by simpa using h1
  have e2:d=d':=by simpa using h2
  subst e1 e2;exact hv
 ·rw[if_neg e]at h1 h2;exact h.2 i v' d' h1 h2
set_option tactic.hygienic true in
theorem El.erase(h:El K Y H vs ds)(j:Nat):El K Y H (vs.eraseIdx j) (ds.eraseIdx j):=by
 refine⟨by simp[List.length_eraseIdx,h.1],fun i v d h1 h2=>?_⟩
 rw[List.getElem?_eraseIdx]at h1 h2;split at h1
 ·rename_i q;rw[if_pos q]at h2;exact h.2 _ v d h1 h2
 ·rename_i q;rw[if_neg q]at h2;exact h.2 _ v d h1 h2
noncomputable def OA(K:PySem.W.Frag)(Y:AS)(H:Hp)(p:Addr):D->Prop
 | .lst ds=>∃vs,H p=some (.lst vs)/\El K Y H vs ds
 | .dk ds=>∃kvs,H p=some (.dK kvs)/\kvs.map (·.1)=ds.map (·.1)/\∀(i:Nat) v d,kvs[i]?=some v->ds[i]?=some d->DA K Y H v.2 d.2
 | .dt ds=>∃ep kvs,KA Y H ep.2/\H p=some (.dT ep kvs)/\kvs.map (·.1)=ds.map (·.1)/\∀(i:Nat) v d,kvs[i]?=some v->ds[i]?=some d->DA K Y H v.2 d.2
 | _=>False
theorem OA.live(h:OA K Y H p d):H p≠none:=by
 cases d with
 | lst ds=>obtain⟨vs,e,_⟩:=h;rw[e];simp
 | dk ds=>obtain⟨vs,e,_⟩:=h;rw[e];simp
 | dt ds=>obtain⟨_,vs,_,e,_⟩:=h;rw[e];simp
 | _=>exact h.elim
theorem OA.lv(h:OA K Y H p d):Lv H p:=by
 cases d with
 | lst ds=>obtain⟨vs,e,_⟩:=h;exact⟨by rw[e];simp,fun _ z=>by rw[e]at z;cases z⟩
 | dk ds=>obtain⟨vs,e,_⟩:=h;exact⟨by rw[e];simp,fun _ z=>by rw[e]at z;cases z⟩
 | dt ds=>obtain⟨_,vs,_,e,_⟩:=h;exact⟨by rw[e];simp,fun _ z=>by rw[e]at z;cases z⟩
 | _=>exact h.elim
theorem OA.go(h:OA K Y H p d)(hp:H' p=H p)(k:∀b o,H b=some o->¬ Y b->H' b=some o)(n:∀b,Y' b->Y b∨H b=none):OA K Y' H' p d:=by
 cases d with
 | lst ds=>obtain⟨vs,e,q⟩:=h;exact⟨vs,hp.trans e,q.go k n⟩
 | dk ds=>obtain⟨vs,e,q1,q2⟩:=h;exact⟨vs,hp.trans e,q1,fun i v d a b=>(q2 i v d a b).go k n⟩
 | dt ds=>obtain⟨ep,vs,ka,e,q1,q2⟩:=h;exact⟨ep,vs,ka.go k n,hp.trans e,q1,fun i v d a b=>(q2 i v d a b).go k n⟩
 | _=>exact h.elim
theorem OA.da(h:OA K Y H p d)(hp:¬ Y' p)(n:∀b,Y' b->Y b):DA K Y' H (.ref p) d:=by
 cases d with
 | lst ds=>obtain⟨vs,e,q⟩:=h;exact .lst hp e q.1 (q.less n).2
 | dk ds=>obtain⟨vs,e,q1,q2⟩:=h;exact .dk hp e q1 fun i v d a b=>(q2 i v d a b).less n
 | dt ds=>obtain⟨ep,vs,ka,e,q1,q2⟩:=h;exact .dt hp (ka.less n) e q1 fun i v d a b=>(q2 i v d a b).less n
 | _=>exact h.elim
noncomputable def BA(K:PySem.W.Frag)(Y:AS)(H:Hp)(v:V):D->Prop
 | .non=>v=.non
 | .bl b=>v=.bl b
 | .int i=>v=.int i
 | .str x=>v=.str x
 | .tup ds=>∃a vs,v=.ref a/\TupA K Y H a vs/\El K Y H vs ds
 | .ty n=>v=.ty n
 | .lst ds=>∃a vs,v=.ref a/\H a=some (.lst vs)/\El K Y H vs ds
 | .fl ds=>∃a vs,v=.ref a/\LstA K Y H a vs/\El K Y H vs ds
 | .dk ds=>∃a kvs,v=.ref a/\H a=some (.dK kvs)/\kvs.map (·.1)=ds.map (·.1)/\∀(i:Nat) v d,kvs[i]?=some v->ds[i]?=some d->DA K Y H v.2 d.2
 | .dt ds=>∃a ep kvs,v=.ref a/\KA Y H ep.2/\H a=some (.dT ep kvs)/\kvs.map (·.1)=ds.map (·.1)/\∀(i:Nat) v d,kvs[i]?=some v->ds[i]?=some d->DA K Y H v.2 d.2
theorem DA.ba(h:DA K Y H v d):BA K Y H v d:=by
 cases h with
 | non=>rfl
 | bl b=>rfl
 | int i=>rfl
 | str x=>rfl
 | tup h1 h2 h3=>exact⟨_,_,rfl,h1,h2,h3⟩
 | ty n=>rfl
 | lst h0 h1 h2 h3=>exact⟨_,_,rfl,h1,h2,h3⟩
 | fl h1 h2 h3=>exact⟨_,_,rfl,h1,h2,h3⟩
 | dk h0 h1 h2 h3=>exact⟨_,_,rfl,h1,h2,h3⟩
 | dt h0 ka h1 h2 h3=>exact⟨_,_,_,rfl,ka,h1,h2,h3⟩
theorem OA.ba(h:OA K Y H p d):BA K Y H (.ref p) d:=by
 cases d with
 | lst ds=>obtain⟨vs,e,q⟩:=h;exact⟨p,vs,rfl,e,q⟩
 | dk ds=>obtain⟨vs,e,q1,q2⟩:=h;exact⟨p,vs,rfl,e,q1,q2⟩
 | dt ds=>obtain⟨ep,vs,ka,e,q1,q2⟩:=h;exact⟨p,ep,vs,rfl,ka,e,q1,q2⟩
 | _=>exact h.elim
end
end VF
namespace VF
open PySem L2
inductive Sl where
 | e|v (d:D)|o (d:D)|io (d:D)
noncomputable abbrev En:=List Sl
noncomputable def Sl.get:Sl->Option D
 | .e=>none
 | .v d=>some d
 | .o d=>some d
 | .io d=>some d
noncomputable def Sl.ow:Sl->Option D
 | .o d=>some d
 | .io d=>some d
 | _=>none
noncomputable def Sl.put(y:D):Sl->Sl
 | .io _=>.io y
 | _=>.o y
theorem Sl.put_ow(y:D)(s:Sl):(s.put y).ow=some y:=by cases s<;>rfl
theorem Sl.put_v(y z:D)(s:Sl):s.put y≠.v z:=by cases s<;>(intro e;cases e)
inductive Rs where
 | d (x:D)|f (x:D)|s (i:Nat)
structure ER(K:PySem.W.Frag)(st:En)(σ:St)(H:Hp)(O Z:AS):Prop where
 len:st.length=σ.length
 val:∀(i:Nat) d,st[i]?=some (.v d)->∃v,σ[i]?=some (some v)/\DA K (U O Z) H v d
 own:∀(i:Nat) s d,st[i]?=some s->s.ow=some d->∃p,σ[i]?=some (some (.ref p))/\O p/\OA K (U O Z) H p d
 uni:∀(i j:Nat) s t d d' p,st[i]?=some s->s.ow=some d->st[j]?=some t->t.ow=some d'->σ[i]?=some (some (.ref p))->σ[j]?=some (some (.ref p))->i=j
 dis:∀p,O p->¬ Z p
 liv:∀p,U O Z p->Lv H p
structure Kp(st st':En):Prop where
 len:st'.length=st.length
 has:∀(i:Nat) s,st[i]?=some s->s.get≠none->∃s',st'[i]?=some s'/\s'.get≠none
 io:∀(i:Nat) d,st[i]?=some (.io d)->∃d',st'[i]?=some (.io d')
theorem Kp.refl(st:En):Kp st st:=⟨rfl,fun i s h g=>⟨s,h,g⟩,fun i d h=>⟨d,h⟩⟩
theorem Kp.trans{a b c:En}(x:Kp a b)(y:Kp b c):Kp a c:=by
 refine⟨y.len.trans x.len,fun i s h g=>?_,fun i d h=>?_⟩
 ·obtain⟨s',h',g'⟩:=x.has i s h g;exact y.has i s' h' g'
 ·obtain⟨d',h'⟩:=x.io i d h;exact y.io i d' h'
noncomputable def RVal(K:PySem.W.Frag)(Z:AS)(st:En)(σ:St)(H:Hp)(O:AS)(v:V):Rs->Prop
 | .d x=>DA K (U O Z) H v x
 | .f x=>∃p,v=.ref p/\¬ O p/\¬ Z p/\OA K (ins p (U O Z)) H p x/\ER K st σ H (ins p O) Z
 | .s i=>σ[i]?=some (some v)/\∃s,st[i]?=some s/\s.get≠none
noncomputable def cont(st:En):Rs->Option D
 | .d x=>some x
 | .f x=>some x
 | .s i=>(st[i]?).bind Sl.get
noncomputable def Rs.nf:Rs->Rs
 | .f x=>.d x
 | r=>r
section
variable {K:PySem.W.Frag}{Y Y' O O' O1 O2 Z:AS}{H H' H1 H2:Hp}{v:V}{d:D}{vs:List V}{ds:List D}{a p:Addr}{st st' st1 st2:En}{σ σ':St}
theorem cW(st:En)(r:Rs):cont st r.nf=cont st r:=by cases r<;>rfl
theorem RVal.nf{r:Rs}(h:RVal K Z st σ H O v r):RVal K Z st σ H O v r.nf:=by
 cases r with
 | d x=>exact h
 | s i=>exact h
 | f x =>
  obtain⟨p,rfl,h1,h2,h3,_⟩:=h;exact h3.da (fun z=>z.elim h1 h2) fun b z=>.inr z
theorem RVal.ba{r:Rs}(h:RVal K Z st σ H O v r)(E:ER K st σ H O Z)(c:cont st r=some d):BA K (U O Z) H v d:=by
 cases r with
 | d x=>cases c;exact DA.ba h
 | f x =>
  cases c;have:=RVal.nf h;exact DA.ba (show DA K (U O Z) H v _ from this)
 | s i =>
  obtain⟨h1,s,h2,h3⟩:=h;have c':(st[i]?).bind Sl.get=some d:=c;rw[h2]at c';cases s with
  | e=>cases c'
  | v x =>
   cases c';obtain⟨u,g1,g2⟩:=E.val i _ h2;rw[h1]at g1;cases g1;exact g2.ba
  | o x =>
   cases c';obtain⟨p,g1,g2,g3⟩:=E.own i _ _ h2 rfl;rw[h1]at g1;cases g1;exact g3.ba
  | io x =>
   cases c';obtain⟨p,g1,g2,g3⟩:=E.own i _ _ h2 rfl;rw[h1]at g1;cases g1;exact g3.ba
theorem RVal.ext{r:Rs}(h:RVal K Z st σ H O v r.nf)(e:Ext O H O' H')(k:Kp st st'):RVal K Z st' σ H' O' v r.nf:=by
 cases r with
 | d x=>exact DA.ext (show DA K (U O Z) H v x from h) e
 | f x=>exact DA.ext (show DA K (U O Z) H v x from h) e
 | s i =>
  obtain⟨h1,s,h2,h3⟩:=h;exact⟨h1,k.has i s h2 h3⟩
theorem ER.same(E:ER K st σ H O Z)(s:Same H H'):ER K st σ H' O Z:=by
 refine⟨E.len,fun i d h=>?_,fun i s' d h1 h2=>?_,E.uni,E.dis,fun p hp=>?_⟩
 ·obtain⟨v,h1,h2⟩:=E.val i d h;exact⟨v,h1,h2.same s⟩
 ·obtain⟨p,g1,g2,g3⟩:=E.own i s' d h1 h2;refine⟨p,g1,g2,g3.go ?_ (fun b o e _=>s b o e) fun b z=>.inl z⟩;cases e:H p with
  | none=>exact absurd e g3.live
  | some o=>exact s p o e
 ·exact(E.liv p hp).same fun o e=>s p o e
theorem ER.away(E:ER K st σ H O Z)(s:Same H H')(hp:H p=none)(hp':Lv H' p):ER K st σ H' (ins p O) Z:=by
 have sub:∀b,U (ins p O) Z b->ins p (U O Z) b:=fun b z=>by
  rcases z with(z|z)|z
  ·exact .inl z
  ·exact .inr (.inl z)
  ·exact .inr (.inr z)
 refine⟨E.len,fun i d h=>?_,fun i s' d h1 h2=>?_,E.uni,fun q hq=>?_,fun q hq=>?_⟩
 ·obtain⟨v,h1,h2⟩:=E.val i d h;exact⟨v,h1,(h2.away s hp).less sub⟩
 ·obtain⟨q,g1,g2,g3⟩:=E.own i s' d h1 h2;refine⟨q,g1,.inr g2,g3.go ?_ (fun b o e _=>s b o e) fun b z=>?_⟩
  ·cases e:H q with
   | none=>exact absurd e g3.live
   | some o=>exact s q o e
  ·rcases sub b z with z|z
   ·exact .inr (z ▸ hp)
   ·exact .inl z
 ·rcases hq with rfl|hq
  ·exact fun z=>(E.liv _ (.inr z)).1 hp
  ·exact E.dis q hq
 ·rcases hq with(rfl|hq)|hq
  ·exact hp'
  ·exact(E.same s).liv q (.inl hq)
  ·exact(E.same s).liv q (.inr hq)
theorem ER.free(E:ER K st σ H O Z)(hp:H p=none):¬ O p/\¬ Z p:=⟨fun z=>(E.liv p (.inl z)).1 hp,fun z=>(E.liv p (.inr z)).1 hp⟩
theorem ER.new(E:ER K st σ H O Z)(hp:H p=none)(el:El K (U O Z) H vs ds):ER K st σ (upd H p (.lst vs)) O Z/\RVal K Z st σ (upd H p (.lst vs)) O (.ref p) (.f (.lst ds)):=by
 have s:=aY hp (.lst vs);have hf:=E.free hp;refine⟨E.same s,p,rfl,hf.1,hf.2,⟨vs,ay,el.away s hp⟩,E.away s hp ⟨by rw[ay];simp,fun _ z=>by rw[ay]at z;cases z⟩⟩
theorem ER.newT(E:ER K st σ H O Z)(hp:H p=none)(el:El K (U O Z) H vs ds):ER K st σ (upd H p (.tup vs)) O Z/\RVal K Z st σ (upd H p (.tup vs)) O (.ref p) (.d (.tup ds)):=by
 have s:=aY hp (.tup vs);have hf:=E.free hp;exact⟨E.same s,.tup ⟨ay,fun z=>z.elim hf.1 hf.2⟩ el.1 (el.same s).2⟩
noncomputable def oY(st:En)(i:Nat):Option En:=match st[i]? with
 | some (.v _)=>some st
 | some (.o d)=>some (st.set i (.v d))
 | _=>none
noncomputable def qa(st:En):Rs->Option En
 | .s i=>oY st i
 | _=>some st
theorem aq{α:Type}{l:List α}{i j:Nat}{x:α}(h:i≠j):(l.set i x)[j]?=l[j]?:=by rw[Xh,if_neg h]
theorem aK{α:Type}{l:List α}{i:Nat}{x y:α}(h:l[i]?=some y):(l.set i x)[i]?=some x:=by
 have hi:=(Wa.mp h).1;rw[Xh,if_pos rfl,if_pos hi]
set_option tactic.hygienic true in
theorem sj{i:Nat}(h:oY st i=some st'):Kp st st'/\∃d,st'[i]?=some (.v d)/\(st[i]?).bind Sl.get=some d:=by
 unfold oY at h;split at h
 ·rename_i d e
  cases h;exact⟨Kp.refl st,d,e,by rw[e];rfl⟩
 ·rename_i d e
  cases h;refine⟨⟨by simp,fun j s hj g=>?_,fun j d' hj=>?_⟩,d,aK e,by rw[e];rfl⟩
  ·by_cases q:i=j
   ·subst q;exact⟨.v d,aK e,by simp[Sl.get]⟩
   ·exact⟨s,by rw[aq q];exact hj,g⟩
  ·have q:i≠j:=fun z=>by subst z;rw[e]at hj;cases hj
   exact⟨d',by rw[aq q];exact hj⟩
 ·cases h
set_option tactic.hygienic true in
theorem ER.frz{i:Nat}(E:ER K st σ H O Z)(h:oY st i=some st'):∃O',Ext O H O' H/\ER K st' σ H O' Z/\(∀b,O' b->O b):=by
 unfold oY at h;split at h
 ·cases h;exact⟨O,Ext.refl O H,E,fun _ z=>z⟩
 ·rename_i d e
  cases h;obtain⟨p,g1,g2,g3⟩:=E.own i _ _ e rfl;have less:∀b,U (fun b=>O b/\b≠p) Z b->U O Z b:=fun b z=>z.elim (fun q=>.inl q.1) .inr;refine⟨fun b=>O b/\b≠p,⟨fun b o q _=>q,fun b z=>.inl z.1,fun b z=>z,fun b z=>z⟩,⟨by simp[E.len],fun j x hj=>?_,fun j s x hj hs=>?_,fun j k s t x y q hj hs hk ht e1 e2=>?_,fun q hq=>E.dis q hq.1,fun q hq=>E.liv q (less q hq)⟩,fun b z=>z.1⟩
  ·by_cases q:i=j
   ·subst q;rw[aK e]at hj;cases hj;exact⟨.ref p,g1,g3.da (fun z=>z.elim (fun y=>y.2 rfl) (E.dis p g2)) less⟩
   ·rw[aq q]at hj;obtain⟨v,h1,h2⟩:=E.val j x hj;exact⟨v,h1,h2.less less⟩
  ·have q:i≠j:=fun z=>by
    subst z;rw[aK e]at hj;cases hj;cases hs
   rw[aq q]at hj;obtain⟨r,h1,h2,h3⟩:=E.own j s x hj hs;refine⟨r,h1,⟨h2,fun z=>q ?_⟩,h3.go rfl (fun _ _ e _=>e) fun b z=>.inl (less b z)⟩;subst z;exact E.uni i j _ _ _ _ r e rfl hj hs g1 h1
  ·have q1:i≠j:=fun z=>by
    subst z;rw[aK e]at hj;cases hj;cases hs
   have q2:i≠k:=fun z=>by
    subst z;rw[aK e]at hk;cases hk;cases ht
   rw[aq q1]at hj;rw[aq q2]at hk;exact E.uni j k s t x y q hj hs hk ht e1 e2
 ·cases h
theorem RVal.frz{r:Rs}(h:RVal K Z st σ H O v r)(E:ER K st σ H O Z)(f:qa st r=some st')(c:cont st r=some d):∃O',Ext O H O' H/\Kp st st'/\ER K st' σ H O' Z/\DA K (U O' Z) H v d:=by
 cases r with
 | d x=>cases f;cases c;exact⟨O,Ext.refl O H,Kp.refl st,E,h⟩
 | f x=>cases f;cases c;exact⟨O,Ext.refl O H,Kp.refl st,E,RVal.nf h⟩
 | s i =>
  obtain⟨h1,s,h2,h3⟩:=h;have f':oY st i=some st':=f;obtain⟨k,x,k1,k2⟩:=sj f';obtain⟨O',e1,e2,_⟩:=E.frz f';have c':(st[i]?).bind Sl.get=some d:=c;have ex:x=d:=Option.some.inj (k2.symm.trans c');subst ex;obtain⟨u,g1,g2⟩:=e2.val i _ k1;rw[h1]at g1;cases g1;exact⟨O',e1,k,e2,g2⟩
theorem ER.write{i:Nat}{s:Sl}{x y:D}{o:HO}(E:ER K st σ H O Z)(hs:st[i]?=some s)(ho:s.ow=some x)(hp:σ[i]?=some (some (.ref p)))(new:OA K (U O Z) (upd H p o) p y) :
  ER K (st.set i (s.put y)) σ (upd H p o) O Z/\Ext O H O (upd H p o)/\Kp st (st.set i (s.put y)):=by
 obtain⟨q,g1,g2,g3⟩:=E.own i s x hs ho;have eq:q=p:=by rw[hp]at g1;cases g1;rfl
 subst eq;have keep:∀b u,H b=some u->¬ U O Z b->upd H q o b=some u:=fun b u e n=>by
  have hb:b≠q:=fun z=>n (.inl (by rw[z];exact g2))
  rw[ao hb];exact e
 refine⟨⟨by simp[E.len],fun j d hj=>?_,fun j t d hj ht=>?_,fun j k t t' d d' r hj ht hk ht' e1 e2=>?_,E.dis,fun r hr=>?_⟩,⟨fun b u e n=>?_,fun b z=>.inl z,fun b z=>?_,fun b z=>?_⟩,⟨by simp,fun j t hj ht=>?_,fun j d hj=>?_⟩⟩
 ·by_cases e:i=j
  ·subst e;rw[aK hs]at hj;exact absurd (Option.some.inj hj) (Sl.put_v _ _ _)
  ·rw[aq e]at hj;obtain⟨v,h1,h2⟩:=E.val j d hj;exact⟨v,h1,h2.go keep fun b z=>.inl z⟩
 ·by_cases e:i=j
  ·subst e;rw[aK hs]at hj;have:=Option.some.inj hj;subst this;rw[Sl.put_ow]at ht;cases ht;exact⟨q,hp,g2,new⟩
  ·rw[aq e]at hj;obtain⟨r,h1,h2,h3⟩:=E.own j t d hj ht;have hne:r≠q:=fun z=>by subst z;exact e (E.uni i j s t x d r hs ho hj ht hp h1)
   exact⟨r,h1,h2,h3.go (ao hne) keep fun b z=>.inl z⟩
 ·have own':∀(m:Nat)(t:Sl)(d:D),(st.set i (s.put y))[m]?=some t->t.ow=some d->∃t2 d2,st[m]?=some t2/\t2.ow=some d2:=fun m t d hm ht=>by
   by_cases e:i=m
   ·subst e;exact⟨s,x,hs,ho⟩
   ·rw[aq e]at hm;exact⟨t,d,hm,ht⟩
  obtain⟨t1,d1,a1,b1⟩:=own' j t d hj ht;obtain⟨t2,d2,a2,b2⟩:=own' k t' d' hk ht';exact E.uni j k t1 t2 d1 d2 r a1 b1 a2 b2 e1 e2
 ·by_cases e:r=q
  ·subst e;exact new.lv
  ·exact(E.liv r hr).same fun o' eo=>by rw[ao e];exact eo
 ·have hb:b≠q:=fun z=>n (by rw[z];exact g2)
  rw[ao hb];exact e
 ·by_cases e:b=q
  ·subst e;rw[ay];simp
  ·rw[ao e];exact z
 ·by_cases e:b=q
  ·subst e;exact new.lv
  ·exact z.same fun o' eo=>by rw[ao e];exact eo
 ·by_cases e:i=j
  ·subst e;exact⟨s.put y,aK hs,by cases s<;>simp[Sl.put,Sl.get]⟩
  ·exact⟨t,by rw[aq e];exact hj,ht⟩
 ·by_cases e:i=j
  ·subst e;rw[hs]at hj;cases hj;exact⟨y,aK hs⟩
  ·exact⟨d,by rw[aq e];exact hj⟩
end
end VF
namespace VF
open PySem L2
noncomputable abbrev FE:=En->Option (Rs×En)
noncomputable abbrev FA:=En->Option (List Rs×En)
noncomputable abbrev FT:=En->Option (Bool×En)
noncomputable abbrev Rz:=D×Bool
noncomputable def mk:Rz->Rs
 | (d,true)=>.f d
 | (d,false)=>.d d
noncomputable def RES(K:PySem.W.Frag)(Y:AS)(H H':Hp)(v:V):Rz->Prop
 | (d,true)=>∃p,v=.ref p/\H p=none/\OA K (ins p Y) H' p d
 | (d,false)=>DA K Y H' v d
noncomputable def Fsh(H:Hp)(v:V):Rs->Prop
 | .f _=>∀p,v=.ref p->H p=none
 | _=>True
theorem Ext.dead{O O':AS}{H H':Hp}(e:Ext O H O' H'){p:Addr}(h:H' p=none):H p=none:=by
 cases q:H p with
 | none=>rfl
 | some o=>exact absurd h (e.al p (by rw[q];simp))
theorem Fsh.back{O O':AS}{H H':Hp}{v:V}{r:Rs}(h:Fsh H' v r)(e:Ext O H O' H'):Fsh H v r:=by
 cases r with
 | f x=>exact fun p hp=>e.dead (h p hp)
 | d x=>trivial
 | s i=>trivial
noncomputable def RdE(K:PySem.W.Frag)(te:TE)(f:FE):Prop:=∀(st:En)(σ:St)(H:Hp)(O Z:AS)(Q:VK),ER K st σ H O Z->∀r st',f st=some (r,st') ->
 (∀v H' O',Ext O H O' H'->Kp st st'->ER K st' σ H' O' Z->RVal K Z st' σ H' O' v r->Fsh H v r->Q v H')->te σ H Q
inductive RVs(K:PySem.W.Frag)(Z:AS)(st:En)(σ:St)(H:Hp)(O:AS):List V->List Rs->Prop where
 | nil:RVs K Z st σ H O [] []
 | cons {v:V} {vs:List V} {r:Rs} {rs:List Rs}:RVal K Z st σ H O v r.nf->RVs K Z st σ H O vs rs->RVs K Z st σ H O (v::vs) (r::rs)
noncomputable def RdA(K:PySem.W.Frag)(ta:TA)(f:FA):Prop:=∀(st:En)(σ:St)(H:Hp)(O Z:AS)(Q:List V->Hp->Prop),ER K st σ H O Z->∀rs st',f st=some (rs,st') ->
 (∀vs H' O',Ext O H O' H'->Kp st st'->ER K st' σ H' O' Z->RVs K Z st' σ H' O' vs rs->Q vs H')->ta σ H Q
noncomputable def RdT(K:PySem.W.Frag)(tt:TT)(f:FT):Prop:=∀(st:En)(σ:St)(H:Hp)(O Z:AS)(Q:Bool->Hp->Prop),ER K st σ H O Z->∀c st',f st=some (c,st') ->
 (∀H' O',Ext O H O' H'->Kp st st'->ER K st' σ H' O' Z->Q c H')->tt σ H Q
noncomputable def RdOp(K:PySem.W.Frag)(r:R2)(b:D->D->Option Rz):Prop:=∀(Y:AS)(H:Hp)(x y:V)(d1 d2:D)(z:Rz)(Q:VK),(∀p,Y p->Lv H p)->BA K Y H x d1->BA K Y H y d2->b d1 d2=some z ->
 (∀v H',Same H H'->RES K Y H H' v z->Q v H')->r x y H Q
noncomputable def wH(K:PySem.W.Frag)(r:V->Hp->VK->Prop)(b:D->Option Rz):Prop:=∀(Y:AS)(H:Hp)(x:V)(d1:D)(z:Rz)(Q:VK),(∀p,Y p->Lv H p)->BA K Y H x d1->b d1=some z ->
 (∀v H',Same H H'->RES K Y H H' v z->Q v H')->r x H Q
inductive BAs(K:PySem.W.Frag)(Y:AS)(H:Hp):List V->List D->Prop where
 | nil:BAs K Y H [] []
 | cons {v:V} {vs:List V} {d:D} {ds:List D}:BA K Y H v d->BAs K Y H vs ds->BAs K Y H (v::vs) (d::ds)
noncomputable def RdCB(K:PySem.W.Frag)(r:List V->Hp->VK->Prop)(b:List D->Option Rz):Prop:=∀(Y:AS)(H:Hp)(xs:List V)(ds:List D)(z:Rz)(Q:VK),(∀p,Y p->Lv H p)->BAs K Y H xs ds->b ds=some z ->
 (∀v H',Same H H'->RES K Y H H' v z->Q v H')->r xs H Q
section
variable {K:PySem.W.Frag}{Y Y' O O' O1 O2 Z:AS}{H H' H1 H2:Hp}{v:V}{d:D}{vs:List V}{ds:List D}{a p:Addr}{st st' st1 st2:En}{σ σ':St}
theorem RES.rv{z:Rz}(E:ER K st σ H O Z)(s:Same H H')(h:RES K (U O Z) H H' v z):ER K st σ H' O Z/\RVal K Z st σ H' O v (mk z):=by
 obtain⟨d,fr⟩:=z;cases fr with
 | false=>exact⟨E.same s,h⟩
 | true =>
  obtain⟨p,rfl,hp,ho⟩:=h;have hf:=E.free hp;exact⟨E.same s,p,rfl,hf.1,hf.2,ho,E.away s hp ho.lv⟩
theorem RES.fsh{z:Rz}(h:RES K Y H H' v z):Fsh H v (mk z):=by
 obtain⟨d,fr⟩:=z;cases fr with
 | false=>trivial
 | true=>obtain⟨p,rfl,hp,_⟩:=h;exact fun q e=>by cases e;exact hp
theorem RVs.ext{rs:List Rs}(h:RVs K Z st σ H O vs rs)(e:Ext O H O' H')(k:Kp st st'):RVs K Z st' σ H' O' vs rs:=by
 induction h with
 | nil=>exact .nil
 | cons h1 _ ih=>exact .cons (h1.ext e k) ih
noncomputable def ce(st:En):List Rs->Option (List D)
 | []=>some []
 | r::rs=>(cont st r).bind fun d=>(ce st rs).bind fun ds=>some (d::ds)
theorem RVs.bas{rs:List Rs}(h:RVs K Z st σ H O vs rs)(E:ER K st σ H O Z):∀{ds:List D},ce st rs=some ds->BAs K (U O Z) H vs ds:=by
 induction h with
 | nil=>intro ds e;cases e;exact .nil
 | @cons v vs r rs h1 _ ih =>
  intro ds e;refine bsO e fun d e1 e=>?_;refine bsO e fun ds' e2 e=>?_;cases e;exact .cons (h1.ba E (by rw[cW];exact e1)) (ih e2)
noncomputable def b6:List Rs->En->Option (List D×En)
 | [],st=>some ([],st)
 | r::rs,st=>(cont st r).bind fun d=>(qa st r).bind fun st1=>(b6 rs st1).bind fun x=>some (d::x.1,x.2)
theorem ss(st:En)(r:Rs):qa st r.nf=qa st r:=by cases r<;>rfl
theorem RVs.esc:∀{rs:List Rs}{vs:List V}{st:En}{O:AS}{ds:List D}{st':En},RVs K Z st σ H O vs rs->ER K st σ H O Z->b6 rs st=some (ds,st')->∃O',Ext O H O' H/\Kp st st'/\ER K st' σ H O' Z/\El K (U O' Z) H vs ds
 | [],_,st,O,ds,st',.nil,E,e=>by cases e;exact⟨O,Ext.refl O H,Kp.refl _,E,El.nil⟩
 | r::rs,_,st,O,ds,st',.cons h1 h2,E,e=>by
  refine bsO e fun d e1 e=>?_;refine bsO e fun st1 e2 e=>?_;refine bsP e fun ds2 st2 e3 e=>?_;cases e;obtain⟨O1,x1,k1,E1,da⟩:=h1.frz E (by rw[ss];exact e2) (by rw[cW];exact e1)
  obtain⟨O2,x2,k2,E2,el⟩:=RVs.esc (h2.ext x1 k1) E1 e3;exact⟨O2,x1.trans x2,k1.trans k2,E2,El.cons (da.ext x2) el⟩
noncomputable def ac(i:Nat):FE:=fun st=>match st[i]? with
 | some (.v d)=>some (.d d,st)
 | some (.o _)=>some (.s i,st)
 | some (.io _)=>some (.s i,st)
 | _=>none
set_option tactic.hygienic true in
theorem aa(i:Nat):RdE K (gu i) (ac i):=by
 intro st σ H O Z Q E r st' h q;unfold ac at h;split at h
 ·rename_i d e
  cases h;obtain⟨v,h1,h2⟩:=E.val i d e;exact⟨v,h1,q v H O (Ext.refl O H) (Kp.refl _) E h2 True.intro⟩
 ·rename_i d e
  cases h;obtain⟨p,h1,h2,h3⟩:=E.own i _ _ e rfl;exact⟨.ref p,h1,q _ H O (Ext.refl O H) (Kp.refl _) E ⟨h1,_,e,by simp[Sl.get]⟩ True.intro⟩
 ·rename_i d e
  cases h;obtain⟨p,h1,h2,h3⟩:=E.own i _ _ e rfl;exact⟨.ref p,h1,q _ H O (Ext.refl O H) (Kp.refl _) E ⟨h1,_,e,by simp[Sl.get]⟩ True.intro⟩
 ·cases h
noncomputable def fC(d:D):FE:=fun st=>some (.d d,st)
theorem fL{v:V}{d:D}(h:∀Y H,DA K Y H v d):RdE K (tC v) (fC d):=by
 intro st σ H O Z Q E r st' e q;cases e;exact q v H O (Ext.refl O H) (Kp.refl _) E (h _ _) True.intro
theorem af(i:Int):RdE K (tC (.int i)) (fC (.int i)):=fL fun _ _=>.int i
theorem bE(x:Str):RdE K (tC (.str x)) (fC (.str x)):=fL fun _ _=>.str x
theorem jV(b:Bool):RdE K (tC (.bl b)) (fC (.bl b)):=fL fun _ _=>.bl b
theorem kB:RdE K (tC .non) (fC .non):=fL fun _ _=>.non
noncomputable def fOp(b:D->D->Option Rz)(fa fb:FE):FE:=fun st=>(fa st).bind fun x=>(fb x.2).bind fun y=>(cont y.2 x.1).bind fun d1=>(cont y.2 y.1).bind fun d2=>(b d1 d2).bind fun z=>some (mk z,y.2)
theorem ah{r:R2}{b:D->D->Option Rz}{ta tb:TE}{fa fb:FE}(hr:RdOp K r b)(ha:RdE K ta fa)(hb:RdE K tb fb):RdE K (tOp r ta tb) (fOp b fa fb):=by
 intro st σ H O Z Q E r' st' h q;refine bsP h fun r1 st1 e1 h=>?_;refine bsP h fun r2 st2 e2 h=>?_;refine bsO h fun d1 e3 h=>?_;refine bsO h fun d2 e4 h=>?_;refine bsO h fun z e5 h=>?_;cases h;refine ha st σ H O Z _ E r1 st1 e1 fun v1 H1 O1 x1 k1 E1 rv1 w1=>?_;refine hb st1 σ H1 O1 Z _ E1 r2 st2 e2 fun v2 H2 O2 x2 k2 E2 rv2 w2=>?_;have b1:=(rv1.nf.ext x2 k2).ba E2 (by rw[cW];exact e3)
 refine hr (U O2 Z) H2 v1 v2 d1 d2 z _ E2.liv b1 (rv2.ba E2 e4) e5 fun v H3 s hres=>?_;obtain⟨E3,rv3⟩:=hres.rv E2 s;exact q v H3 O2 ((x1.trans x2).trans (Same.ext s)) (k1.trans k2) E3 rv3 (hres.fsh.back (x1.trans x2))
noncomputable def fUn(b:D->Option Rz)(fa:FE):FE:=fun st=>(fa st).bind fun x=>(cont x.2 x.1).bind fun d1=>(b d1).bind fun z=>some (mk z,x.2)
theorem wI{r:V->Hp->VK->Prop}{b:D->Option Rz}{ta:TE}{fa:FE}(hr:wH K r b)(ha:RdE K ta fa):RdE K (tUn r ta) (fUn b fa):=by
 intro st σ H O Z Q E r' st' h q;refine bsP h fun r1 st1 e1 h=>?_;refine bsO h fun d1 e3 h=>?_;refine bsO h fun z e5 h=>?_;cases h;refine ha st σ H O Z _ E r1 st1 e1 fun v1 H1 O1 x1 k1 E1 rv1 w1=>?_;refine hr (U O1 Z) H1 v1 d1 z _ E1.liv (rv1.ba E1 e3) e5 fun v H3 s hres=>?_;obtain⟨E3,rv3⟩:=hres.rv E1 s;exact q v H3 O1 (x1.trans (Same.ext s)) k1 E3 rv3 (hres.fsh.back x1)
noncomputable def tru(st:En)(r:Rs):Option Bool:=match cont st r with
 | some (.bl c)=>some c
 | _=>none
set_option tactic.hygienic true in
theorem uk{r:Rs}{c:Bool}(E:ER K st σ H O Z)(h:RVal K Z st σ H O v r)(t:tru st r=some c):v=.bl c:=by
 unfold tru at t;split at t
 ·rename_i b e
  cases t;exact h.ba E e
 ·cases t
noncomputable def aX(fa:FE):FT:=fun st=>(fa st).bind fun x=>(tru x.2 x.1).bind fun c=>some (c,x.2)
theorem bb{ta:TE}{fa:FE}(ha:RdE K ta fa):RdT K (pN ta) (aX fa):=by
 intro st σ H O Z Q E c st' h q;refine bsP h fun r1 st1 e1 h=>?_;refine bsO h fun c' e2 h=>?_;cases h;exact ha st σ H O Z _ E r1 st1 e1 fun v1 H1 O1 x1 k1 E1 rv1 w1=>⟨c,uk E1 rv1 e2,q H1 O1 x1 k1 E1⟩
theorem ip{ta:TE}{fa:FE}(ha:RdE K ta fa):RdT K (tB ta) (aX fa):=bb ha
noncomputable def gA(f:FT):FT:=fun st=>(f st).bind fun x=>some (!x.1,x.2)
theorem iN{t:TT}{f:FT}(h:RdT K t f):RdT K (wu t) (gA f):=by
 intro st σ H O Z Q E c st' e q;refine bsP e fun c1 st1 e1 e=>?_;cases e;exact h st σ H O Z _ E c1 st1 e1 q
noncomputable def i6(f g:FT):FT:=fun st=>(f st).bind fun x=>if x.1=true then g x.2 else some (false,x.2)
theorem sv{t u:TT}{f g:FT}(h:RdT K t f)(h':RdT K u g):RdT K (wt t u) (i6 f g):=by
 intro st σ H O Z Q E c st' e q;refine bsP e fun c1 st1 e1 e=>?_;refine h st σ H O Z _ E c1 st1 e1 fun H1 O1 x1 k1 E1=>?_;cases c1 with
 | true =>
  rw[if_pos rfl]at e ⊢;exact h' st1 σ H1 O1 Z _ E1 c st' e fun H2 O2 x2 k2 E2=>q H2 O2 (x1.trans x2) (k1.trans k2) E2
 | false =>
  simp only[Zd,if_false]at e ⊢;cases e;exact q H1 O1 x1 k1 E1
noncomputable def lz(f g:FT):FT:=fun st=>(f st).bind fun x=>if x.1=true then some (true,x.2) else g x.2
theorem mE{t u:TT}{f g:FT}(h:RdT K t f)(h':RdT K u g):RdT K (tOr t u) (lz f g):=by
 intro st σ H O Z Q E c st' e q;refine bsP e fun c1 st1 e1 e=>?_;refine h st σ H O Z _ E c1 st1 e1 fun H1 O1 x1 k1 E1=>?_;cases c1 with
 | true =>
  rw[if_pos rfl]at e ⊢;cases e;exact q H1 O1 x1 k1 E1
 | false =>
  simp only[Zd,if_false]at e ⊢;exact h' st1 σ H1 O1 Z _ E1 c st' e fun H2 O2 x2 k2 E2=>q H2 O2 (x1.trans x2) (k1.trans k2) E2
noncomputable def fN:FT:=fun st=>some (true,st)
theorem g6:RdT K wF fN:=by
 intro st σ H O Z Q E c st' e q;cases e;exact q H O (Ext.refl O H) (Kp.refl _) E
noncomputable def iq(fa fb:FE):FE:=fun st=>(fa st).bind fun x=>(tru x.2 x.1).bind fun c=>if c=true then fb x.2 else some (.d (.bl false),x.2)
theorem gB{ta tb:TE}{fa fb:FE}(ha:RdE K ta fa)(hb:RdE K tb fb):RdE K (nu ta tb) (iq fa fb):=by
 intro st σ H O Z Q E r st' h q;refine bsP h fun r1 st1 e1 h=>?_;refine bsO h fun c e2 h=>?_;refine ha st σ H O Z _ E r1 st1 e1 fun v1 H1 O1 x1 k1 E1 rv1 w1=>⟨c,uk E1 rv1 e2,?_⟩;cases c with
 | true =>
  rw[if_pos rfl]at h ⊢;exact hb st1 σ H1 O1 Z _ E1 r st' h fun v H2 O2 x2 k2 E2 rv w2=>q v H2 O2 (x1.trans x2) (k1.trans k2) E2 rv (w2.back x1)
 | false =>
  rw[if_neg (by decide)]at h ⊢
  cases h;exact q _ H1 O1 x1 k1 E1 (.bl false) True.intro
noncomputable def fIf(f:FT)(fa fb:FE):FE:=fun st=>(f st).bind fun x=>if x.1=true then fa x.2 else fb x.2
theorem ul{t:TT}{f:FT}{ta tb:TE}{fa fb:FE}(h:RdT K t f)(ha:RdE K ta fa)(hb:RdE K tb fb):RdE K (tIf t ta tb) (fIf f fa fb):=by
 intro st σ H O Z Q E r st' e q;refine bsP e fun c1 st1 e1 e=>?_;refine h st σ H O Z _ E c1 st1 e1 fun H1 O1 x1 k1 E1=>?_;cases c1 with
 | true =>
  rw[if_pos rfl]at e ⊢;exact ha st1 σ H1 O1 Z _ E1 r st' e fun v H2 O2 x2 k2 E2 rv w2=>q v H2 O2 (x1.trans x2) (k1.trans k2) E2 rv (w2.back x1)
 | false =>
  simp only[Zd,if_false]at e ⊢;exact hb st1 σ H1 O1 Z _ E1 r st' e fun v H2 O2 x2 k2 E2 rv w2=>q v H2 O2 (x1.trans x2) (k1.trans k2) E2 rv (w2.back x1)
noncomputable def av:FA:=fun st=>some ([],st)
theorem ai:RdA K km av:=by
 intro st σ H O Z Q E rs st' e q;cases e;exact q [] H O (Ext.refl O H) (Kp.refl _) E .nil
noncomputable def ad(fa:FE)(fr:FA):FA:=fun st=>(fa st).bind fun x=>(fr x.2).bind fun y=>some (x.1::y.1,y.2)
theorem ab{ta:TE}{fa:FE}{tr:TA}{fr:FA}(ha:RdE K ta fa)(hr:RdA K tr fr):RdA K (cE ta tr) (ad fa fr):=by
 intro st σ H O Z Q E rs st' h q;refine bsP h fun r1 st1 e1 h=>?_;refine bsP h fun rs2 st2 e2 h=>?_;cases h;refine ha st σ H O Z _ E r1 st1 e1 fun v1 H1 O1 x1 k1 E1 rv1 w1=>?_;refine hr st1 σ H1 O1 Z _ E1 rs2 st2 e2 fun vs H2 O2 x2 k2 E2 rvs=>?_;exact q (v1::vs) H2 O2 (x1.trans x2) (k1.trans k2) E2 (.cons (rv1.nf.ext x2 k2) rvs)
theorem few{n:Nat}(h:n<=1000000):n<=sizeLine:=Vb h (by decide)
noncomputable def lA(fa:FA):FE:=fun st=>(fa st).bind fun x=>(b6 x.1 x.2).bind fun y=>if y.1.length<=1000000 then some (.d (.tup y.1),y.2) else none
theorem i7{ta:TA}{fa:FA}(ha:RdA K ta fa):RdE K (u4 ta) (lA fa):=by
 intro st σ H O Z Q E r st' h q;refine bsP h fun rs st1 e1 h=>?_;refine bsP h fun ds st2 e2 h=>?_;refine ha st σ H O Z _ E rs st1 e1 fun vs H1 O1 x1 k1 E1 rvs=>?_;obtain⟨O2,x2,k2,E2,el⟩:=rvs.esc E1 e2;obtain⟨hz,h⟩:=aE h;cases h;refine⟨by rw[el.1];exact few hz,fun p hp=>?_⟩
 obtain⟨E3,rv⟩:=E2.newT hp el;exact q _ _ O2 ((x1.trans x2).trans (Same.ext (aY hp _))) (k1.trans k2) E3 rv True.intro
noncomputable def fO(fa:FA):FE:=fun st=>(fa st).bind fun x=>(b6 x.1 x.2).bind fun y=>if y.1.length<=1000000 then some (.f (.lst y.1),y.2) else none
theorem cP{ta:TA}{fa:FA}(ha:RdA K ta fa):RdE K (rZ ta) (fO fa):=by
 intro st σ H O Z Q E r st' h q;refine bsP h fun rs st1 e1 h=>?_;refine bsP h fun ds st2 e2 h=>?_;refine ha st σ H O Z _ E rs st1 e1 fun vs H1 O1 x1 k1 E1 rvs=>?_;obtain⟨O2,x2,k2,E2,el⟩:=rvs.esc E1 e2;obtain⟨hz,h⟩:=aE h;cases h;refine⟨by rw[el.1];exact few hz,fun p hp=>?_⟩
 obtain⟨E3,rv⟩:=E2.new hp el;exact q _ _ O2 ((x1.trans x2).trans (Same.ext (aY hp _))) (k1.trans k2) E3 rv fun p' e=>by cases e;exact(x1.trans x2).dead hp
noncomputable def fCB(b:List D->Option Rz)(fa:FA):FE:=fun st=>(fa st).bind fun x=>(ce x.2 x.1).bind fun ds=>(b ds).bind fun z=>some (mk z,x.2)
theorem bD{r:List V->Hp->VK->Prop}{b:List D->Option Rz}{ta:TA}{fa:FA}(hr:RdCB K r b)(ha:RdA K ta fa):RdE K (tCB r ta) (fCB b fa):=by
 intro st σ H O Z Q E r0 st' h q;refine bsP h fun rs st1 e1 h=>?_;refine bsO h fun ds e2 h=>?_;refine bsO h fun z e3 h=>?_;cases h;refine ha st σ H O Z _ E rs st1 e1 fun vs H1 O1 x1 k1 E1 rvs=>?_;refine hr (U O1 Z) H1 vs ds z _ E1.liv (rvs.bas E1 e2) e3 fun v H3 s hres=>?_;obtain⟨E3,rv3⟩:=hres.rv E1 s;exact q v H3 O1 (x1.trans (Same.ext s)) k1 E3 rv3 (hres.fsh.back x1)
end
end VF
namespace VF
open PySem L2
noncomputable def D.isSc:D->Bool
 | .non=>true
 | .bl _=>true
 | .int _=>true
 | .str _=>true
 | .ty _=>true
 | _=>false
noncomputable def spV(K:PySem.W.Frag)(g:List D->Option Rz):Sp:=fun vs H Q _=>∃(Z:AS)(ds:List D)(z:Rz),El K Z H vs ds/\(∀p,Z p->Lv H p)/\g ds=some z/\∀v H',Same H H'->RES K Z H H' v z->Q v H'
noncomputable def xN(K:PySem.W.Frag)(Y:AS)(f:Addr)(x':D)(H H':Hp)(v:V):Rz->Prop
 | (d,true)=>∃p,v=.ref p/\H p=none/\OA K (ins p Y) H' p d/\OA K (ins p Y) H' f x'
 | (d,false)=>DA K Y H' v d/\OA K Y H' f x'
noncomputable def g7(K:PySem.W.Frag)(g:D->List D->Option (Rz×D)):Sp:=fun vs H Q _=>∃(f:Addr)(ws:List V)(Z:AS)(x:D)(ds:List D)(z:Rz)(x':D),vs=.ref f::ws/\¬ Z f/\OA K (ins f Z) H f x/\El K (ins f Z) H ws ds/\(∀p,Z p->Lv H p)/\g x ds=some (z,x') /\
 ∀v H',(∀b o,H b=some o->b≠f->H' b=some o)->xN K (ins f Z) f x' H H' v z->Q v H'
section
variable {K:PySem.W.Frag}{Y Y' O O' O1 O2 Z:AS}{H H' H1 H2:Hp}{v:V}{d:D}{vs:List V}{ds:List D}{a p:Addr}{st st' st1 st2:En}{σ σ':St}
noncomputable def cX(g:List D->Option Rz)(fa:FA):FE:=fun st=>(fa st).bind fun x=>(b6 x.1 x.2).bind fun y=>(g y.1).bind fun z=>some (mk z,y.2)
theorem dM{g:List D->Option Rz}{ta:TA}{fa:FA}(ha:RdA K ta fa):RdE K (oX (spV K g) ta) (cX g fa):=by
 intro st σ H O Z Q E r0 st' h q;refine bsP h fun rs st1 e1 h=>?_;refine bsP h fun ds st2 e2 h=>?_;refine bsO h fun z e3 h=>?_;cases h;refine ha st σ H O Z _ E rs st1 e1 fun vs H1 O1 x1 k1 E1 rvs=>?_;obtain⟨O2,x2,k2,E2,el⟩:=rvs.esc E1 e2;refine⟨U O2 Z,ds,z,el,E2.liv,e3,fun v H3 s hres=>?_⟩;obtain⟨E3,rv3⟩:=hres.rv E2 s;exact q v H3 O2 ((x1.trans x2).trans (Same.ext s)) (k1.trans k2) E3 rv3 (hres.fsh.back (x1.trans x2))
theorem RVal.da0{r:Rs}(h:RVal K Z st σ H O v r)(E:ER K st σ H O Z)(c:cont st r=some d):DA K (fun _=>False) H v d:=by
 cases r with
 | d x=>cases c;exact DA.less (show DA K (U O Z) H v d from h) fun b z=>z.elim
 | f x=>cases c;exact DA.less (show DA K (U O Z) H v d from RVal.nf h) fun b z=>z.elim
 | s i =>
  obtain⟨h1,s,h2,h3⟩:=h;have c':(st[i]?).bind Sl.get=some d:=c;rw[h2]at c';cases s with
  | e=>cases c'
  | v x =>
   cases c';obtain⟨u,g1,g2⟩:=E.val i _ h2;rw[h1]at g1;cases g1;exact g2.less fun b z=>z.elim
  | o x =>
   cases c';obtain⟨p,g1,g2,g3⟩:=E.own i _ _ h2 rfl;rw[h1]at g1;cases g1;exact g3.da (fun z=>z) fun b z=>z.elim
  | io x =>
   cases c';obtain⟨p,g1,g2,g3⟩:=E.own i _ _ h2 rfl;rw[h1]at g1;cases g1;exact g3.da (fun z=>z) fun b z=>z.elim
theorem RVs.el0{rs:List Rs}(h:RVs K Z st σ H O vs rs)(E:ER K st σ H O Z):∀{ds:List D},ce st rs=some ds->El K (fun _=>False) H vs ds:=by
 induction h with
 | nil=>intro ds e;cases e;exact El.nil
 | @cons v vs r rs h1 _ ih =>
  intro ds e;refine bsO e fun d e1 e=>?_;refine bsO e fun ds' e2 e=>?_;cases e;exact El.cons (h1.da0 E (by rw[cW];exact e1)) (ih e2)
theorem DA.sc(h:DA K Y H v d)(s:d.isSc=true):DA K Y' H' v d:=by
 cases h with
 | non=>exact .non
 | bl b=>exact .bl b
 | int i=>exact .int i
 | str x=>exact .str x
 | ty n=>exact .ty n
 | _=>cases s
noncomputable def cg(g:List D->Option Rz)(fa:FA):FE:=fun st=>(fa st).bind fun x=>(ce x.2 x.1).bind fun ds=>(g ds).bind fun z=>if (z.1.isSc&&!z.2)=true then some (.d z.1,x.2) else none
theorem cx{g:List D->Option Rz}{ta:TA}{fa:FA}(ha:RdA K ta fa):RdE K (oX (spV K g) ta) (cg g fa):=by
 intro st σ H O Z Q E r0 st' h q;refine bsP h fun rs st1 e1 h=>?_;refine bsO h fun ds e2 h=>?_;refine bsP h fun dz fr e3 h=>?_;obtain⟨hc,h⟩:=aE h;cases h;have h1:dz.isSc=true/\fr=false:=by simpa using hc
 obtain⟨h1,rfl⟩:=h1;refine ha st σ H O Z _ E rs _ e1 fun vs H1 O1 x1 k1 E1 rvs=>?_;refine⟨fun _=>False,ds,(dz,false),rvs.el0 E1 e2,fun p z=>z.elim,e3,fun v H3 s hres=>?_⟩;exact q v H3 O1 (x1.trans (Same.ext s)) k1 (E1.same s) (DA.sc (show DA K (fun _=>False) H3 v dz from hres) h1) True.intro
theorem lB{i:Nat}{s:Sl}{g:D->List D->Option (Rz×D)}{x x':D}{z:Rz}{Q:VK}{ws:List V}{XE:XK}(E:ER K st σ H O Z)(hs:st[i]?=some s)(hx:s.ow=some x)(hv:σ[i]?=some (some v))(el:El K (U O Z) H ws ds)(hg:g x ds=some (z,x'))
  (q:∀v H' O',Ext O H O' H'->Kp st (st.set i (s.put x'))->ER K (st.set i (s.put x')) σ H' O' Z->RVal K Z (st.set i (s.put x')) σ H' O' v (mk z)->Fsh H v (mk z)->Q v H'):g7 K g (v::ws) H Q XE:=by
 obtain⟨p,g1,g2,g3⟩:=E.own i s x hs hx;have ev:v=.ref p:=by rw[hv]at g1;cases g1;rfl
 subst ev;have a1:∀b,ins p (fun b=>U O Z b/\b≠p) b->U O Z b:=fun b z=>z.elim (fun q=>by rw[q];exact .inl g2) fun q=>q.1
 have a2:∀b,U O Z b->ins p (fun b=>U O Z b/\b≠p) b:=fun b z=>by
  by_cases e:b=p
  ·exact .inl e
  ·exact .inr ⟨z,e⟩
 refine⟨p,ws,fun b=>U O Z b/\b≠p,x,ds,z,x',rfl,fun z=>z.2 rfl,g3.go rfl (fun _ _ e _=>e) (fun b z=>.inl (a1 b z)),el.less a1,fun b z=>E.liv b z.1,hg,fun u H' kp hres=>?_⟩;have ho:OA K (ins p fun b=>U O Z b/\b≠p) H' p x':=by
  obtain⟨dz,fr⟩:=z;cases fr with
  | false=>exact hres.2
  | true=>obtain⟨r,_,_,_,h⟩:=hres;exact h.go rfl (fun _ _ e _=>e) fun b z=>.inl (.inr z)
 have kp':∀b o,H b=some o->¬ U O Z b->H' b=some o:=fun b o e n=>kp b o e fun z=>n (by rw[z];exact .inl g2)
 have al:∀b,H b≠none->H' b≠none:=fun b hb=>by
  by_cases e:b=p
  ·rw[e];exact ho.live
  ·cases eb:H b with
   | none=>exact absurd eb hb
   | some o=>rw[kp b o eb e];simp
 have al':∀b,Lv H b->Lv H' b:=fun b hb=>by
  by_cases e:b=p
  ·rw[e];exact ho.lv
  ·exact hb.same fun o eb=>kp b o eb e
 have ex:Ext O H O H':=⟨fun b o e n=>kp b o e fun z=>n (by rw[z];exact g2),fun b z=>.inl z,al,al'⟩
 have ho':OA K (U O Z) H' p x':=ho.go rfl (fun _ _ e _=>e) fun b z=>.inl (a2 b z);have mkE:∀(O2:AS),(∀b,O b->O2 b)->(∀b,O2 b->O b∨H b=none)->(∀b,O2 b->¬ Z b)->(∀b,O2 b->Lv H' b)->OA K (U O2 Z) H' p x'->ER K (st.set i (s.put x')) σ H' O2 Z:=fun O2 up dn ds lv ho2=>by
  have nn:∀b,U O2 Z b->U O Z b∨H b=none:=fun b z=>z.elim (fun y=>(dn b y).elim (fun w=>.inl (.inl w)) .inr) fun y=>.inl (.inr y);refine⟨by simp[E.len],fun j d hj=>?_,fun j t d hj ht=>?_,fun j k t t' d d' r hj ht hk ht' e1 e2=>?_,ds,fun r hr=>hr.elim (lv r) fun y=>al' r (E.liv r (.inr y))⟩
  ·by_cases e:i=j
   ·subst e;rw[aK hs]at hj;exact absurd (Option.some.inj hj) (Sl.put_v _ _ _)
   ·rw[aq e]at hj;obtain⟨v,h1,h2⟩:=E.val j d hj;exact⟨v,h1,h2.go kp' nn⟩
  ·by_cases e:i=j
   ·subst e;rw[aK hs]at hj;have:=Option.some.inj hj;subst this;rw[Sl.put_ow]at ht;cases ht;exact⟨p,g1,up p g2,ho2⟩
   ·rw[aq e]at hj;obtain⟨r,h1,h2,h3⟩:=E.own j t d hj ht;have hne:r≠p:=fun z=>by subst z;exact e (E.uni i j s t x d r hs hx hj ht g1 h1)
    refine⟨r,h1,up r h2,h3.go ?_ kp' nn⟩;cases er:H r with
    | none=>exact absurd er h3.live
    | some o=>exact kp r o er hne
  ·have own':∀(m:Nat)(t:Sl)(d:D),(st.set i (s.put x'))[m]?=some t->t.ow=some d->∃t2 d2,st[m]?=some t2/\t2.ow=some d2:=fun m t d hm ht=>by
    by_cases e:i=m
    ·subst e;exact⟨s,x,hs,hx⟩
    ·rw[aq e]at hm;exact⟨t,d,hm,ht⟩
   obtain⟨t1,d1,a1,b1⟩:=own' j t d hj ht;obtain⟨t2,d2,a2,b2⟩:=own' k t' d' hk ht';exact E.uni j k t1 t2 d1 d2 r a1 b1 a2 b2 e1 e2
 have kk:Kp st (st.set i (s.put x')):=by
  refine⟨by simp,fun j t hj ht=>?_,fun j d hj=>?_⟩
  ·by_cases e:i=j
   ·subst e;exact⟨s.put x',aK hs,by cases s<;>simp[Sl.put,Sl.get]⟩
   ·exact⟨t,by rw[aq e];exact hj,ht⟩
  ·by_cases e:i=j
   ·subst e;rw[hs]at hj;cases hj;exact⟨x',aK hs⟩
   ·exact⟨d,by rw[aq e];exact hj⟩
 have E':=mkE O (fun _ z=>z) (fun _ z=>.inl z) E.dis (fun b z=>al' b (E.liv b (.inl z))) ho';refine q u H' O ex kk E' ?_ ?_
 rotate_left
 ·obtain⟨dz,fr⟩:=z;cases fr with
  | false=>trivial
  | true=>obtain⟨r,rfl,hr,_⟩:=hres;exact fun q e=>by cases e;exact hr
 obtain⟨dz,fr⟩:=z;cases fr with
 | false=>exact DA.less (show DA K _ H' u dz from hres.1) a2
 | true =>
  obtain⟨r,rfl,hr,hor,hof⟩:=hres;have hf:=E.free hr;have a3:∀b,ins r (U O Z) b->ins r (ins p fun b=>U O Z b/\b≠p) b:=fun b z=>z.elim .inl fun y=>.inr (a2 b y);refine⟨r,rfl,hf.1,hf.2,hor.go rfl (fun _ _ e _=>e) (fun b z=>.inl (a3 b z)),mkE (ins r O) (fun _ z=>.inr z) (fun b z=>z.elim (fun y=>.inr (by rw[y];exact hr)) .inl) (fun b z=>z.elim (fun y=>by rw[y];exact hf.2) (E.dis b)) (fun b z=>z.elim (fun y=>by rw[y];exact hor.lv) fun y=>al' b (E.liv b (.inl y))) ?_⟩
  exact hof.go rfl (fun _ _ e _=>e) fun b z=>.inl (a3 b (z.elim (fun y=>y.elim .inl fun w=>.inr (.inl w)) fun y=>.inr (.inr y)))
noncomputable def fIO(g:D->List D->Option (Rz×D))(i:Nat)(fr:FA):FE:=fun st=>(st[i]?).bind fun s0=>(s0.ow).bind fun _=>(fr st).bind fun x=>(b6 x.1 x.2).bind fun y=>(y.2[i]?).bind fun s=>(s.ow).bind fun d=>(g d y.1).bind fun z=>some (mk z.1,y.2.set i (s.put z.2))
theorem bn{g:D->List D->Option (Rz×D)}{i:Nat}{tr:TA}{fr:FA}(hr:RdA K tr fr):RdE K (oX (g7 K g) (cE (gu i) tr)) (fIO g i fr):=by
 intro st σ H O Z Q E r0 st' h q;refine bsO h fun s0 f1 h=>?_;refine bsO h fun x0 f2 h=>?_;refine bsP h fun rs st1 e1 h=>?_;refine bsP h fun ds st2 e2 h=>?_;refine bsO h fun s e3 h=>?_;refine bsO h fun x e4 h=>?_;refine bsP h fun z x' e5 h=>?_;cases h;obtain⟨p,g1,_,_⟩:=E.own i s0 x0 f1 f2;refine⟨.ref p,g1,?_⟩;refine hr st σ H O Z _ E rs st1 e1 fun vs H1 O1 x1 k1 E1 rvs=>?_;obtain⟨O2,x2,k2,E2,el⟩:=rvs.esc E1 e2;exact lB E2 e3 e4 g1 el e5 fun v H' O' ex kk E' rv w=>q v H' O' ((x1.trans x2).trans ex) ((k1.trans k2).trans kk) E' rv (w.back (x1.trans x2))
end
end VF
namespace VF
open PySem L2
structure Kq(st:En)(σ:St)(st':En)(σ':St):Prop where
 len:st'.length=st.length
 io:∀(i:Nat) d,st[i]?=some (.io d)->σ'[i]?=σ[i]?/\∃d',st'[i]?=some (.io d')
theorem Kq.refl(st:En)(σ:St):Kq st σ st σ:=⟨rfl,fun i d h=>⟨rfl,d,h⟩⟩
theorem Kq.trans{a b c:En}{x y z:St}(h:Kq a x b y)(g:Kq b y c z):Kq a x c z:=by
 refine⟨g.len.trans h.len,fun i d e=>?_⟩;obtain⟨e1,d1,e2⟩:=h.io i d e;obtain⟨e3,d2,e4⟩:=g.io i d1 e2;exact⟨e3.trans e1,d2,e4⟩
theorem Kp.kq{st st':En}{σ:St}(k:Kp st st'):Kq st σ st' σ:=⟨k.len,fun i d h=>⟨rfl,k.io i d h⟩⟩
noncomputable abbrev FG:=D->En->Option En
noncomputable def RdG(K:PySem.W.Frag)(g:TG)(fg:FG)(tg:List Nat):Prop:=∀(st:En)(σ:St)(H:Hp)(O Z:AS)(x:V)(d:D)(Q:St->Hp->Prop),ER K st σ H O Z->DA K (U O Z) H x d->∀st',fg d st=some st' ->
 (∀σ',(∀j,j∉tg->σ'[j]?=σ[j]?/\st'[j]?=st[j]?)->Kq st σ st' σ'->ER K st' σ' H O Z->Q σ' H)->g x σ H Q
noncomputable def Sl.isIo:Sl->Bool
 | .io _=>true
 | _=>false
noncomputable def i8(i:Nat)(s:Sl)(st:En):Option En:=(st[i]?).bind fun t=>if t.isIo=true then none else some (st.set i s)
section
variable {K:PySem.W.Frag}{Y Y' O O' O1 O2 Z:AS}{H H' H1 H2:Hp}{v:V}{d:D}{vs:List V}{ds:List D}{a p:Addr}{st st' st1 st2:En}{σ σ':St}
theorem gC{i:Nat}{s:Sl}(h:i8 i s st=some st'):∃t,st[i]?=some t/\t.isIo=false/\st'=st.set i s:=by
 refine bsO h fun t e h=>?_;by_cases c:t.isIo=true
 ·simp only[if_pos c]at h;cases h
 ·simp only[if_neg c]at h;cases h;exact⟨t,e,by simpa using c,rfl⟩
theorem i9{i:Nat}{s t:Sl}{w:Option V}(e:st[i]?=some t)(n:t.isIo=false):Kq st σ (st.set i s) (σ.set i w):=by
 refine⟨by simp,fun j d h=>?_⟩
 have q:i≠j:=fun z=>by subst z;rw[e]at h;cases h;cases n
 exact⟨aq q,d,by rw[aq q];exact h⟩
theorem ER.asg{i:Nat}{t:Sl}(E:ER K st σ H O Z)(e:st[i]?=some t)(h:DA K (U O Z) H v d):ER K (st.set i (.v d)) (σ.set i (some v)) H O Z:=by
 have hi:i<σ.length:=by rw[← E.len];exact(Wa.mp e).1
 have sg:(σ.set i (some v))[i]?=some (some v):=by rw[Xh,if_pos rfl,if_pos hi]
 have ne:∀(j:Nat) s x,(st.set i (.v d))[j]?=some s->s.ow=some x->i≠j/\st[j]?=some s:=fun j s x h1 h2=>by
  by_cases q:i=j
  ·subst q;rw[aK e]at h1;cases h1;cases h2
  ·exact⟨q,by rw[aq q]at h1;exact h1⟩
 refine⟨by simp[E.len],fun j x hj=>?_,fun j s x h1 h2=>?_,fun j k s s' x x' r h1 h2 h3 h4 h5 h6=>?_,E.dis,E.liv⟩
 ·by_cases q:i=j
  ·subst q;rw[aK e]at hj;cases hj;exact⟨v,sg,h⟩
  ·rw[aq q]at hj;obtain⟨w,g1,g2⟩:=E.val j x hj;exact⟨w,by rw[aq q];exact g1,g2⟩
 ·obtain⟨q,h1⟩:=ne j s x h1 h2;obtain⟨r,g1,g2⟩:=E.own j s x h1 h2;exact⟨r,by rw[aq q];exact g1,g2⟩
 ·obtain⟨q1,h1⟩:=ne j s x h1 h2;obtain⟨q2,h3⟩:=ne k s' x' h3 h4;rw[aq q1]at h5;rw[aq q2]at h6;exact E.uni j k s s' x x' r h1 h2 h3 h4 h5 h6
theorem ER.asgF{i:Nat}{t:Sl}{x:D}(E0:ER K st σ H O Z)(E:ER K st σ H (ins p O) Z)(np:¬ O p)(e:st[i]?=some t)(h:OA K (ins p (U O Z)) H p x):ER K (st.set i (.o x)) (σ.set i (some (.ref p))) H (ins p O) Z:=by
 have hi:i<σ.length:=by rw[← E.len];exact(Wa.mp e).1
 have sg:(σ.set i (some (V.ref p)))[i]?=some (some (.ref p)):=by rw[Xh,if_pos rfl,if_pos hi]
 have fresh:∀(j:Nat) s y,st[j]?=some s->s.ow=some y->σ[j]?≠some (some (.ref p)):=fun j s y h1 h2 z=>by
  obtain⟨r,g1,g2,_⟩:=E0.own j s y h1 h2;rw[z]at g1;cases g1;exact np g2
 refine⟨by simp[E.len],fun j y hj=>?_,fun j s y h1 h2=>?_,fun j k s s' y y' r h1 h2 h3 h4 h5 h6=>?_,E.dis,E.liv⟩
 ·by_cases q:i=j
  ·subst q;rw[aK e]at hj;cases hj
  ·rw[aq q]at hj;obtain⟨w,g1,g2⟩:=E.val j y hj;exact⟨w,by rw[aq q];exact g1,g2⟩
 ·by_cases q:i=j
  ·subst q;rw[aK e]at h1;cases h1;cases h2;refine⟨p,sg,.inl rfl,h.go rfl (fun _ _ e _=>e) fun b z=>.inl ?_⟩;rcases z with(z|z)|z
   ·exact .inl z
   ·exact .inr (.inl z)
   ·exact .inr (.inr z)
  ·rw[aq q]at h1;obtain⟨r,g1,g2⟩:=E.own j s y h1 h2;exact⟨r,by rw[aq q];exact g1,g2⟩
 ·by_cases q1:i=j
  ·by_cases q2:i=k
   ·exact q1.symm.trans q2
   ·subst q1;rw[aq q2]at h3 h6;rw[sg]at h5;cases h5;exact absurd h6 (fresh k s' y' h3 h4)
  ·by_cases q2:i=k
   ·subst q2;rw[aq q1]at h1 h5;rw[sg]at h6;cases h6;exact absurd h5 (fresh j s y h1 h2)
   ·rw[aq q1]at h1 h5;rw[aq q2]at h3 h6;exact E.uni j k s s' y y' r h1 h2 h3 h4 h5 h6
noncomputable def gN(i:Nat):FG:=fun d st=>i8 i (.v d) st
theorem cG(i:Nat):RdG K (jJ i) (gN i) [i]:=by
 intro st σ H O Z x d Q E da st' h q;obtain⟨t,e,n,rfl⟩:=gC h;refine q (σ.set i (some x)) (fun j hj=>?_) (i9 e n) (E.asg e da);have q:i≠j:=fun z=>hj (by rw[z];simp)
 exact⟨aq q,aq q⟩
noncomputable abbrev FI:=En->Option (List D×En)
noncomputable def wJ(K:PySem.W.Frag)(Z:AS)(J:It)(items:List D)(H:Hp)(O:AS):Prop:=∀H' O',Ext O H O' H'->(∀p,U O' Z p->Lv H' p)->(∀i,items.length<=i->J.stop i H')/\∀(i:Nat) d,items[i]?=some d->J.go i H'/\∀x H'',J.yld i H' x H''->Same H' H''/\DA K (U O' Z) H'' x d
noncomputable def RdI(K:PySem.W.Frag)(wi:TI)(fi:FI):Prop:=∀(st:En)(σ:St)(H:Hp)(O Z:AS)(R:It->Hp->Prop),ER K st σ H O Z->∀items st',fi st=some (items,st') ->
 (∀J H' O',Ext O H O' H'->Kp st st'->ER K st' σ H' O' Z->wJ K Z J items H' O'->R J H')->wi σ H R
noncomputable def esc(r:Rs)(st:En):Option (D×En):=(cont st r).bind fun d=>(qa st r).bind fun st1=>some (d,st1)
theorem RVal.esc{r:Rs}(h:RVal K Z st σ H O v r)(E:ER K st σ H O Z)(e:esc r st=some (d,st')):∃O',Ext O H O' H/\Kp st st'/\ER K st' σ H O' Z/\DA K (U O' Z) H v d:=by
 refine bsO e fun x e1 e=>?_;refine bsO e fun s1 e2 e=>?_;cases e;exact h.frz E e2 e1
noncomputable def D.its:D->Option (List D)
 | .lst ds=>some ds
 | .fl ds=>some ds
 | _=>none
noncomputable def D.itt:D->Option (List D)
 | .tup ds=>some ds
 | _=>none
noncomputable def fIL(fe:FE):FI:=fun st=>(fe st).bind fun x=>(esc x.1 x.2).bind fun y=>(y.1.its).bind fun ds=>some (ds,y.2)
theorem sw{te:TE}{fe:FE}(h:RdE K te fe):RdI K (nB K te) (fIL fe):=by
 intro st σ H O Z R E items st' e q;refine bsP e fun r st1 e1 e=>?_;refine bsP e fun d st2 e2 e=>?_;refine bsO e fun ds e3 e=>?_;cases e;refine h st σ H O Z _ E r st1 e1 fun v H1 O1 x1 k1 E1 rv w1=>?_;obtain⟨O2,x2,k2,E2,da⟩:=rv.esc E1 e2;have fin:∀{a:Addr}{vs:List V},El K (U O2 Z) H1 vs items->(∀H' O',Ext O2 H1 O' H'->SqL K H' a vs)->nB K (fun _ H Q=>Q (.ref a) H) σ H1 R:=fun {a vs} el sq=>by
  refine⟨a,rfl,⟨vs,sq H1 O2 (Ext.refl _ _)⟩,q _ H1 O2 (x1.trans x2) (k1.trans k2) E2 fun H' O' ex _=>?_⟩;have g1:=sq H' O' ex;have el':=el.ext ex;have hl:=el.1;refine⟨fun i hi=>⟨vs,g1,by lia⟩,fun i d hd=>?_⟩
  obtain⟨v,hv,hdv⟩:=el'.at hd;refine⟨⟨vs,v,g1,hv⟩,fun x H'' hx=>?_⟩;obtain⟨rfl,hx⟩:=hx;have:=hx vs g1;rw[hv]at this;cases this;exact⟨Same.refl _,hdv⟩
 cases d with
 | lst ds' =>
  cases e3;cases da with
  | @lst a vs _ h0 h1 h2 h3=>exact fin ⟨h2,h3⟩ fun H' O' ex=>.inl (.inl (ex.kp a _ h1 fun z=>h0 (.inl z)))
 | fl ds' =>
  cases e3;cases da with
  | @fl a vs _ h1 h2 h3 =>
   refine fin ⟨h2,h3⟩ fun H' O' ex=>?_;rcases h1 with⟨h1,hn⟩|h1
   ·exact .inl (Rd.keep h1 fun o e=>ex.kp a o e fun z=>hn (.inl z))
   ·exact h1 H'
 | _=>cases e3
noncomputable def fIT(fe:FE):FI:=fun st=>(fe st).bind fun x=>(esc x.1 x.2).bind fun y=>(y.1.itt).bind fun ds=>some (ds,y.2)
theorem vr{te:TE}{fe:FE}(h:RdE K te fe):RdI K (uZ K te) (fIT fe):=by
 intro st σ H O Z R E items st' e q;refine bsP e fun r st1 e1 e=>?_;refine bsP e fun d st2 e2 e=>?_;refine bsO e fun ds e3 e=>?_;cases e;refine h st σ H O Z _ E r st1 e1 fun v H1 O1 x1 k1 E1 rv w1=>?_;obtain⟨O2,x2,k2,E2,da⟩:=rv.esc E1 e2;cases d with
 | tup ds' =>
  cases e3;cases da with
  | @tup a vs _ h1 h2 h3 =>
   refine⟨a,rfl,⟨vs,h1.sq⟩,q _ H1 O2 (x1.trans x2) (k1.trans k2) E2 fun H' O' ex _=>?_⟩;have da':=(DA.tup h1 h2 h3).ext ex;cases da' with
   | @tup _ ws _ g1 g2 g3 =>
    refine⟨fun i hi=>⟨ws,g1.sq,by lia⟩,fun i d hd=>?_⟩
    obtain⟨v,hv,hdv⟩:=El.at ⟨g2,g3⟩ hd;refine⟨⟨ws,v,g1.sq,hv⟩,fun x H'' hx=>?_⟩;obtain⟨rfl,hx⟩:=hx;have:=hx ws g1.sq;rw[hv]at this;cases this;exact⟨Same.refl _,hdv⟩
 | _=>cases e3
noncomputable def rng(lo:Int)(n:Nat):List D:=(List.range n).map fun(i:Nat)=>D.int (lo+(i:Int))
theorem qb{lo:Int}{n i:Nat}{d:D}(h:(rng lo n)[i]?=some d):i<n/\d=.int (lo+i):=by
 unfold rng at h;rw[Qc]at h;by_cases hi:i<n
 ·rw[List.getElem?_range hi]at h;exact⟨hi,(Option.some.inj h).symm⟩
 ·rw[List.getElem?_eq_none (by simpa using hi)]at h;cases h
theorem b5(lo:Int)(n:Nat):(rng lo n).length=n:=by simp[rng]
theorem qc{lo:Int}{n:Nat}:wJ K Z (Itr lo n) (rng lo n) H O:=fun H' O' ex _=>by
 refine⟨fun i hi=>by rw[b5]at hi;exact hi,fun i d hd=>?_⟩
 obtain⟨h1,rfl⟩:=qb hd;refine⟨h1,fun x H'' hx=>?_⟩;obtain⟨rfl,rfl⟩:=hx;exact⟨Same.refl _,.int _⟩
noncomputable def vt:List D->Option Int
 | [.int j]=>some j
 | _=>none
noncomputable def jD(fa:FA):FI:=fun st=>(fa st).bind fun x=>(ce x.2 x.1).bind fun ds=>(vt ds).bind fun j=>if -(2 ^ 62)<=j/\j<2 ^ 62 then some (rng 0 j.toNat,x.2) else none
theorem gE{ta:TA}{fa:FA}(h:RdA K ta fa):RdI K (ub ta) (jD fa):=by
 intro st σ H O Z R E items st' e q;refine bsP e fun rs st1 e1 e=>?_;refine bsO e fun ds e2 e=>?_;refine bsO e fun j e3 e=>?_;obtain⟨hc,e⟩:=aE e;cases e;refine h st σ H O Z _ E rs _ e1 fun vs H1 O1 x1 k1 E1 rvs=>?_;have bs:=rvs.bas E1 e2;have ed:ds=[.int j]:=by
  unfold vt at e3;split at e3
  ·cases e3;rfl
  ·cases e3
 subst ed;cases bs with
 | cons b1 b2 =>
  cases b2;obtain rfl:=(show _=V.int j from b1);exact⟨j,rfl,hc.1,hc.2,q _ H1 O1 x1 k1 E1 qc⟩
noncomputable def lC(x:Str):List D:=x.cps.toList.map fun c=>D.str ⟨#[c]⟩
noncomputable def fIS(fe:FE):FI:=fun st=>(fe st).bind fun x=>match cont x.2 x.1 with
 | some (.str z)=>some (lC z,x.2)
 | _=>none
set_option tactic.hygienic true in
theorem vv{te:TE}{fe:FE}(h:RdE K te fe):RdI K (vk te) (fIS fe):=by
 intro st σ H O Z R E items st' e q;refine bsP e fun r st1 e1 e=>?_;refine h st σ H O Z _ E r st1 e1 fun v H1 O1 x1 k1 E1 rv w1=>?_;dsimp only at e;split at e
 ·rename_i z ez
  cases e;have ev:v=.str z:=rv.ba E1 ez;refine⟨z,ev,q _ H1 O1 x1 k1 E1 fun H' O' ex _=>⟨fun i hi=>?_,fun i d hd=>?_⟩⟩
  ·show z.cps.size<=i;simpa[lC]using hi
  ·unfold lC at hd;rw[Qc]at hd;obtain⟨c,hc,rfl⟩:=We.mp hd;have hc':z.cps[i]?=some c:=by simpa using hc
   refine⟨(Ye.mp hc').1,fun x H'' hx=>?_⟩;obtain⟨rfl,c',h1,rfl⟩:=hx;rw[hc']at h1;cases h1;exact⟨Same.refl _,.str _⟩
 ·cases e
inductive Ot where
 | nx (st:En)|rt (r:Rs) (st:En)|bk (st:En)|ct (st:En)
noncomputable abbrev FS:=En->Option Ot
noncomputable def Out(K:PySem.W.Frag)(Z O:AS)(H:Hp)(st:En)(σ:St)(Dn:Ends):Ot->Prop
 | .nx st'=>∀σ' H' O',Ext O H O' H'->Kq st σ st' σ'->ER K st' σ' H' O' Z->Dn.nx σ' H'
 | .rt r st'=>∀v σ' H' O',Ext O H O' H'->Kq st σ st' σ'->ER K st' σ' H' O' Z->RVal K Z st' σ' H' O' v r->Fsh H v r->Dn.rt v H'
 | .bk st'=>∀σ' H' O',Ext O H O' H'->Kq st σ st' σ'->ER K st' σ' H' O' Z->Dn.bk σ' H'
 | .ct st'=>∀σ' H' O',Ext O H O' H'->Kq st σ st' σ'->ER K st' σ' H' O' Z->Dn.ct σ' H'
noncomputable def RdS(K:PySem.W.Frag)(ts:TS)(F:FS):Prop:=∀(st:En)(σ:St)(H:Hp)(O Z:AS)(Dn:Ends),ER K st σ H O Z->∀o,F st=some o->Out K Z O H st σ Dn o->ts Dn σ H
theorem Out.trans{Dn:Ends}{o:Ot}(h:Out K Z O H st σ Dn o)(x:Ext O H O1 H1)(k:Kq st σ st1 σ'):Out K Z O1 H1 st1 σ' Dn o:=by
 cases o with
 | nx s=>exact fun σ2 H2 O2 x2 k2 E2=>h σ2 H2 O2 (x.trans x2) (k.trans k2) E2
 | bk s=>exact fun σ2 H2 O2 x2 k2 E2=>h σ2 H2 O2 (x.trans x2) (k.trans k2) E2
 | ct s=>exact fun σ2 H2 O2 x2 k2 E2=>h σ2 H2 O2 (x.trans x2) (k.trans k2) E2
 | rt r s=>exact fun v σ2 H2 O2 x2 k2 E2 rv w=>h v σ2 H2 O2 (x.trans x2) (k.trans k2) E2 rv (w.back x)
noncomputable def bO:FS:=fun st=>some (.nx st)
theorem bq:RdS K nA bO:=by
 intro st σ H O Z Dn E o e q;cases e;exact q σ H O (Ext.refl _ _) (Kq.refl _ _) E
noncomputable def aJ(F G:FS):FS:=fun st=>(F st).bind fun o=>match o with
 | .nx s=>G s
 | o=>some o
theorem aA{t u:TS}{F G:FS}(h1:RdS K t F)(h2:RdS K u G):RdS K (pE t u) (aJ F G):=by
 intro st σ H O Z Dn E o e q;refine bsO e fun o1 e1 e=>?_;refine h1 st σ H O Z _ E o1 e1 ?_;cases o1 with
 | nx s=>exact fun σ1 H1 O1 x1 k1 E1=>h2 s σ1 H1 O1 Z Dn E1 o e (q.trans x1 k1)
 | bk s=>cases e;exact q
 | ct s=>cases e;exact q
 | rt r s=>cases e;exact q
noncomputable def gF(fe:FE):FS:=fun st=>(fe st).bind fun x=>some (.nx x.2)
theorem iO{te:TE}{fe:FE}(h:RdE K te fe):RdS K (pF te) (gF fe):=by
 intro st σ H O Z Dn E o e q;refine bsP e fun r st1 e1 e=>?_;cases e;exact h st σ H O Z _ E r st1 e1 fun v H1 O1 x1 k1 E1 rv w1=>q σ H1 O1 x1 k1.kq E1
noncomputable def bx(fe:FE):FS:=fun st=>(fe st).bind fun x=>some (.rt x.1 x.2)
theorem aI{te:TE}{fe:FE}(h:RdE K te fe):RdS K (wv te) (bx fe):=by
 intro st σ H O Z Dn E o e q;refine bsP e fun r st1 e1 e=>?_;cases e;exact h st σ H O Z _ E r st1 e1 fun v H1 O1 x1 k1 E1 rv w1=>q v σ H1 O1 x1 k1.kq E1 rv w1
noncomputable def sIf(f:FT)(F G:FS):FS:=fun st=>(f st).bind fun x=>if x.1=true then F x.2 else G x.2
theorem bX{c:TT}{f:FT}{t u:TS}{F G:FS}(hc:RdT K c f)(h1:RdS K t F)(h2:RdS K u G):RdS K (rS c t u) (sIf f F G):=by
 intro st σ H O Z Dn E o e q;refine bsP e fun b st1 e1 e=>?_;refine hc st σ H O Z _ E b st1 e1 fun H1 O1 x1 k1 E1=>?_;cases b with
 | true =>
  rw[if_pos rfl]at e ⊢;exact h1 st1 σ H1 O1 Z Dn E1 o e (q.trans x1 k1.kq)
 | false =>
  simp only[Zd,if_false]at e ⊢;exact h2 st1 σ H1 O1 Z Dn E1 o e (q.trans x1 k1.kq)
noncomputable def bF(fe:FE)(i:Nat):FS:=fun st=>(fe st).bind fun x=>match x.1 with
 | .d y=>(i8 i (.v y) x.2).bind fun s=>some (.nx s)
 | .f y=>(i8 i (.o y) x.2).bind fun s=>some (.nx s)
 | .s j=>(esc (.s j) x.2).bind fun y=>(i8 i (.v y.1) y.2).bind fun s=>some (.nx s)
theorem aV{te:TE}{fe:FE}{i:Nat}(h:RdE K te fe):RdS K (pH te (jJ i)) (bF fe i):=by
 intro st σ H O Z Dn E o e q;refine bsP e fun r st1 e1 e=>?_;refine h st σ H O Z _ E r st1 e1 fun v H1 O1 x1 k1 E1 rv w1=>?_;show Dn.nx (σ.set i (some v)) H1;cases r with
 | d y =>
  refine bsO e fun s e2 e=>?_;cases e;obtain⟨t,f1,f2,rfl⟩:=gC e2;exact q _ H1 O1 x1 (k1.kq.trans (i9 f1 f2)) (E1.asg f1 rv)
 | f y =>
  refine bsO e fun s e2 e=>?_;cases e;obtain⟨t,f1,f2,rfl⟩:=gC e2;obtain⟨p,rfl,np,nz,ho,E2⟩:=rv;have hp:H p=none:=w1 p rfl;exact q _ H1 (ins p O1) ⟨x1.kp,fun b z=>z.elim (fun y=>by rw[y];exact .inr hp) (x1.nw b),x1.al,x1.lv⟩ (k1.kq.trans (i9 f1 f2)) (E1.asgF E2 np f1 ho)
 | s j =>
  refine bsP e fun d st2 e2 e=>?_;refine bsO e fun s e3 e=>?_;cases e;obtain⟨O2,x2,k2,E2,da⟩:=rv.esc E1 e2;obtain⟨t,f1,f2,rfl⟩:=gC e3;exact q _ H1 O2 (x1.trans x2) ((k1.kq.trans k2.kq).trans (i9 f1 f2)) (E2.asg f1 da)
end
end VF
namespace VF
open PySem L2
section
variable {K:PySem.W.Frag}{Y Y' O O' O1 O2 Z:AS}{H H' H1 H2:Hp}{v:V}{d:D}{vs:List V}{ds:List D}{a p:Addr}{st st' st1 st2:En}{σ σ':St}
noncomputable def fS(fg:FG)(B:FS):List D->FS
 | [],st=>some (.nx st)
 | x::r,st=>(fg x st).bind fun s1=>(B s1).bind fun o=>match o with
  | .nx s2=>fS fg B r s2
  | .ct s2=>fS fg B r s2
  | .bk s2=>some (.nx s2)
  | .rt y s2=>some (.rt y s2)
noncomputable def mF(fi:FI)(fg:FG)(B:FS):FS:=fun st=>(fi st).bind fun x=>fS fg B x.1 x.2
theorem mG{wi:TI}{fi:FI}{g:TG}{fg:FG}{tg:List Nat}{tb:TS}{B:FS}(hi:RdI K wi fi)(hg:RdG K g fg tg)(hb:RdS K tb B):RdS K (wy wi g tb) (mF fi fg B):=by
 intro st σ H O Z Dn E o e q;refine bsP e fun items st1 e1 e=>?_;refine hi st σ H O Z _ E items st1 e1 fun J H1 O1 x1 k1 E1 it=>?_;have q1:=q.trans x1 (k1.kq (σ:=σ));refine⟨fun i m σ' H'=>m=items.length-i/\i<=items.length/\∃s O',Ext O1 H1 O' H'/\Kq st1 σ s σ'/\ER K s σ' H' O' Z/\fS fg B (items.drop i) s=some o,⟨items.length,by simp,Vj _,st1,O1,Ext.refl _ _,Kq.refl _ _,E1,e⟩,?_⟩
 rintro i m σ' H' ⟨rfl,hle,s,O',x2,k2,E2,e2⟩;obtain⟨stop,go⟩:=it H' O' x2 E2.liv;by_cases hlt:i<items.length
 ·right;have hd:items.drop i=items[i]::items.drop (i+1):=List.drop_eq_getElem_cons hlt;rw[hd]at e2;refine bsO e2 fun s1 e3 e2=>?_;refine bsO e2 fun o1 e4 e2=>?_;obtain⟨g1,g2⟩:=go i _ (Va hlt);refine⟨g1,fun σ3 H3=>∃s O3,Ext O1 H1 O3 H3/\Kq st1 σ s σ3/\ER K s σ3 H3 O3 Z/\fS fg B (items.drop (i+1)) s=some o,fun σ3 H3 ⟨s3,O3,x3,k3,E3,e3'⟩=>⟨items.length-(i+1),by lia,rfl,hlt,s3,O3,x3,k3,E3,e3'⟩,fun x H'' hy=>?_⟩
  obtain⟨sm,da⟩:=g2 x H'' hy;have xm:Ext O' H' O' H'':=Same.ext sm;refine hg s σ' H'' O' Z x _ _ (E2.same sm) da s1 e3 fun σ4 _ k4 E4=>?_;refine hb s1 σ4 H'' O' Z _ E4 o1 e4 ?_;have xx:=x2.trans xm;cases o1 with
  | nx s2=>exact fun σ5 H5 O5 x5 k5 E5=>⟨s2,O5,xx.trans x5,(k2.trans k4).trans k5,E5,e2⟩
  | ct s2=>exact fun σ5 H5 O5 x5 k5 E5=>⟨s2,O5,xx.trans x5,(k2.trans k4).trans k5,E5,e2⟩
  | bk s2 =>
   cases e2;exact fun σ5 H5 O5 x5 k5 E5=>q1 σ5 H5 O5 (xx.trans x5) ((k2.trans k4).trans k5) E5
  | rt y s2 =>
   cases e2;exact fun v σ5 H5 O5 x5 k5 E5 rv w=>q1 v σ5 H5 O5 (xx.trans x5) ((k2.trans k4).trans k5) E5 rv (w.back xx)
 ·left;have hn:items.drop i=[]:=List.drop_eq_nil_of_le (by lia)
  rw[hn]at e2;cases e2;exact⟨stop i (by lia),q1 σ' H' O' x2 k2 E2⟩
noncomputable def sWh(f:FT)(B:FS):Nat->FS
 | 0,_=>none
 | n+1,st=>(f st).bind fun x=>if x.1=true then(B x.2).bind fun o=>match o with
   | .nx s2=>sWh f B n s2
   | .ct s2=>sWh f B n s2
   | .bk s2=>some (.nx s2)
   | .rt y s2=>some (.rt y s2)
  else some (.nx x.2)
theorem lD(n:Nat){c:TT}{f:FT}{tb:TS}{B:FS}(hc:RdT K c f)(hb:RdS K tb B):RdS K (pI c tb) (sWh f B n):=by
 intro st σ H O Z Dn E o e q;refine⟨fun m σ' H'=>∃s O',Ext O H O' H'/\Kq st σ s σ'/\ER K s σ' H' O' Z/\sWh f B m s=some o,⟨n,st,O,Ext.refl _ _,Kq.refl _ _,E,e⟩,?_⟩;rintro m σ' H' ⟨s,O',x2,k2,E2,e2⟩;cases m with
 | zero=>cases e2
 | succ m =>
  refine bsP e2 fun b s1 e3 e2=>?_;refine hc s σ' H' O' Z _ E2 b s1 e3 fun H3 O3 x3 k3 E3=>?_;have xx:=x2.trans x3;have kk:=k2.trans (k3.kq (σ:=σ'));cases b with
  | false =>
   simp only[Zd,if_false]at e2 ⊢;cases e2;exact q σ' H3 O3 xx kk E3
  | true =>
   rw[if_pos rfl]at e2 ⊢;refine bsO e2 fun o1 e4 e2=>?_;refine⟨fun σ5 H5=>∃s O5,Ext O H O5 H5/\Kq st σ s σ5/\ER K s σ5 H5 O5 Z/\sWh f B m s=some o,fun σ5 H5 h=>⟨m,Nat.lt_succ_self _,h⟩,?_⟩;refine hb s1 σ' H3 O3 Z _ E3 o1 e4 ?_;cases o1 with
   | nx s2=>exact fun σ5 H5 O5 x5 k5 E5=>⟨s2,O5,xx.trans x5,kk.trans k5,E5,e2⟩
   | ct s2=>exact fun σ5 H5 O5 x5 k5 E5=>⟨s2,O5,xx.trans x5,kk.trans k5,E5,e2⟩
   | bk s2 =>
    cases e2;exact fun σ5 H5 O5 x5 k5 E5=>q σ5 H5 O5 (xx.trans x5) (kk.trans k5) E5
   | rt y s2 =>
    cases e2;exact fun v σ5 H5 O5 x5 k5 E5 rv w=>q v σ5 H5 O5 (xx.trans x5) (kk.trans k5) E5 rv (w.back xx)
structure RdM(K:PySem.W.Frag)(T:String)(r:V->List V->Hp->VK->Prop)(ok:D->Bool)(m:D->List D->Option (D×D)):Prop where
 ty:∀(Y:AS)(H:Hp)(p:Addr)(x:D),OA K Y H p x->ok x=true->tyV K T (.ref p) H
 run:∀(Y:AS)(H:Hp)(p:Addr)(x:D)(vs:List V)(ds:List D)(y x':D)(Q:VK),Y p->OA K Y H p x->El K Y H vs ds->m x ds=some (y,x') ->
  (∀v o,DA K Y (upd H p o) v y->OA K Y (upd H p o) p x'->Q v (upd H p o))->r (.ref p) vs H Q
noncomputable def fM(ok:D->Bool)(m:D->List D->Option (D×D))(i:Nat)(fa:FA):FE:=fun st=>(st[i]?).bind fun s0=>(s0.ow).bind fun x0=>if ok x0=true then(fa st).bind fun x=>(b6 x.1 x.2).bind fun y=>(y.2[i]?).bind fun s=>(s.ow).bind fun d=>(m d y.1).bind fun z=>some (.d z.1,y.2.set i (s.put z.2)) else none
theorem qd{T:String}{r:V->List V->Hp->VK->Prop}{ok:D->Bool}{m:D->List D->Option (D×D)}{i:Nat}{ta:TA}{fa:FA}(hm:RdM K T r ok m)(ha:RdA K ta fa):RdE K (tBM K T r (gu i) ta) (fM ok m i fa):=by
 intro st σ H O Z Q E r0 st' h q;refine bsO h fun s0 f1 h=>?_;refine bsO h fun x0 f2 h=>?_;obtain⟨hok,h⟩:=aE h;refine bsP h fun rs st1 e1 h=>?_;refine bsP h fun ds st2 e2 h=>?_;refine bsO h fun s e3 h=>?_;refine bsO h fun x e4 h=>?_;refine bsP h fun y x' e5 h=>?_;cases h;obtain⟨p,g1,g2,g3⟩:=E.own i s0 x0 f1 f2;refine⟨.ref p,g1,hm.ty _ _ _ _ g3 hok,?_⟩;refine ha st σ H O Z _ E rs st1 e1 fun vs H1 O1 x1 k1 E1 rvs=>?_;obtain⟨O2,x2,k2,E2,el⟩:=rvs.esc E1 e2;obtain⟨p',j1,j2,j3⟩:=E2.own i s x e3 e4;have ep:p'=p:=by rw[g1]at j1;cases j1;rfl
 subst ep;refine hm.run (U O2 Z) H1 p' x vs ds y x' _ (.inl j2) j3 el e5 fun v o da ho=>?_;obtain⟨E3,x3,k3⟩:=E2.write e3 e4 g1 ho;exact q v _ O2 ((x1.trans x2).trans x3) ((k1.trans k2).trans k3) E3 da True.intro
noncomputable def um(K:PySem.W.Frag)(t:pG)(m:D->D->D->Option D):Prop:=∀(Y:AS)(H:Hp)(p:Addr)(x:D)(k v:V)(dk dv x':D)(Q:Hp->Prop),Y p->OA K Y H p x->BA K Y H k dk->DA K Y H v dv->m x dk dv=some x' ->
 (∀o,OA K Y (upd H p o) p x'->Q (upd H p o))->t (.ref p) k v H Q
noncomputable def jE(m:D->D->D->Option D)(fe:FE)(i:Nat)(fi:FE):FS:=fun st=>(fe st).bind fun x=>(esc x.1 x.2).bind fun y=>(y.2[i]?).bind fun s0=>(s0.ow).bind fun _=>(fi y.2).bind fun w=>(cont w.2 w.1).bind fun dk=>(w.2[i]?).bind fun s=>(s.ow).bind fun z=>(m z dk y.1).bind fun z'=>some (.nx (w.2.set i (s.put z')))
theorem gb{t:pG}{m:D->D->D->Option D}{te ti:TE}{fe fi:FE}{i:Nat}(hm:um K t m)(he:RdE K te fe)(hi:RdE K ti fi):RdS K (pH te (wx (gu i) ti t)) (jE m fe i fi):=by
 intro st σ H O Z Dn E o e q;refine bsP e fun r st1 e1 e=>?_;refine bsP e fun dv st2 e2 e=>?_;refine bsO e fun s0 e3 e=>?_;refine bsO e fun x0 e4 e=>?_;refine bsP e fun rk st3 e5 e=>?_;refine bsO e fun dk e6 e=>?_;refine bsO e fun s e7 e=>?_;refine bsO e fun x e8 e=>?_;refine bsO e fun x' e9 e=>?_;cases e;refine he st σ H O Z _ E r st1 e1 fun v H1 O1 x1 k1 E1 rv w1=>?_;obtain⟨O2,x2,k2,E2,da⟩:=rv.esc E1 e2;obtain⟨p,g1,g2,g3⟩:=E2.own i s0 x0 e3 e4;refine⟨.ref p,g1,?_⟩;refine hi st2 σ H1 O2 Z _ E2 rk st3 e5 fun k H3 O3 x3 k3 E3 rk' w3=>?_;obtain⟨p',j1,j2,j3⟩:=E3.own i s x e7 e8;have ep:p'=p:=by rw[g1]at j1;cases j1;rfl
 subst ep;refine hm (U O3 Z) H3 p' x k v dk dv x' _ (.inl j2) j3 (rk'.ba E3 e6) (da.ext x3) e9 fun o ho=>?_;obtain⟨E4,x4,k4⟩:=E3.write e7 e8 g1 ho;exact q σ _ O3 (((x1.trans x2).trans x3).trans x4) (((k1.trans k2).trans k3).trans k4).kq E4
noncomputable def fP(k:Nat)(caps:List Nat)(st:En):En:=List.replicate k Sl.e++caps.map fun i=>(st[i]?).getD .e
noncomputable def rst(k:Nat)(s:En):En:=List.replicate k Sl.e++s.drop k
noncomputable def wb:List Nat->En->En->En
 | i::r,s::sb,st=>wb r sb (st.set i s)
 | _,_,st=>st
noncomputable def cY(fg:FG)(fc:FT)(fe:FE)(k:Nat):List D->En->Option (List D×En)
 | [],sb=>some ([],sb)
 | x::r,sb=>(fg x sb).bind fun s1=>(fc s1).bind fun c=>if c.1=true then(fe c.2).bind fun y=>(esc y.1 y.2).bind fun w=>(cY fg fc fe k r (rst k w.2)).bind fun z=>some (w.1::z.1,z.2)
  else cY fg fc fe k r (rst k c.2)
noncomputable def kC(caps:List Nat)(n:Nat):Bool:=decide caps.Nodup&&caps.all fun i=>decide (i<n)
noncomputable def ef(k:Nat)(caps:List Nat)(fi:FI)(fg:FG)(fc:FT)(fe:FE):FE:=fun st=>(fi st).bind fun x=>if (kC caps x.2.length&&decide (x.1.length<=1000000))=true then(cY fg fc fe k x.1 (fP k caps x.2)).bind fun y=>some (.f (.lst y.1),wb caps (y.2.drop k) x.2) else none
theorem mH:∀(caps:List Nat)(sb st:En),(wb caps sb st).length=st.length
 | [],_,_=>by simp[wb]
 | _::_,[],_=>by simp[wb]
 | i::r,s::sb,st=>by rw[wb,mH r sb];simp
theorem ja:∀(caps:List Nat)(sb st:En){i:Nat},i∉caps->(wb caps sb st)[i]?=st[i]?
 | [],_,_,_,_=>by simp[wb]
 | _::_,[],_,_,_=>by simp[wb]
 | j::r,s::sb,st,i,h=>by
  rw[wb,ja r sb _ (fun z=>h (Xc _ z))];exact aq fun z=>h (by rw[z];simp)
theorem qf:∀(caps:List Nat)(sb st:En){j i:Nat},caps.Nodup->sb.length=caps.length->caps[j]?=some i->i<st.length->(wb caps sb st)[i]?=sb[j]?
 | [],_,_,_,_,_,_,h,_=>by simp at h
 | _::_,[],_,_,_,_,h,_,_=>by simp at h
 | c::r,s::sb,st,0,i,nd,hl,h,hi=>by
  have e:c=i:=by simpa using h
  subst e;rw[wb,ja r sb _ (Qg.mp nd).1];rw[Xh,if_pos rfl,if_pos hi];rfl
 | c::r,s::sb,st,j+1,i,nd,hl,h,hi=>by
  rw[wb,qf r sb _ (j:=j) (Qg.mp nd).2 (by simpa using hl) (by simpa using h) (by simpa using hi)];rfl
theorem nR{k:Nat}{caps:List Nat}{j i:Nat}(h:caps[j]?=some i):(fP k caps st)[k+j]?=some ((st[i]?).getD .e):=by
 unfold fP;rw[Qb (by simp),Vd,Nat.add_sub_cancel_left,Qc,h];rfl
theorem gG{k:Nat}{caps:List Nat}{i:Nat}{s:Sl}(h:(fP k caps st)[i]?=some s)(n:s.get≠none):∃j i',i=k+j/\caps[j]?=some i'/\st[i']?=some s:=by
 unfold fP at h;by_cases hi:i<k
 ·rw[Xd (by simpa using hi),Yf,if_pos hi]at h
  cases h;exact absurd rfl n
 ·rw[Qb (by simpa using hi),Vd,Qc]at h
  refine⟨i-k,?_⟩;obtain⟨i',e1,e2⟩:=We.mp h;refine⟨i',by lia,e1,?_⟩
  cases q:st[i']? with
  | none=>rw[q]at e2;subst e2;exact absurd rfl n
  | some t=>rw[q]at e2;subst e2;rfl
theorem gc{k:Nat}{caps:List Nat}{j i:Nat}(h:caps[j]?=some i):(blk k caps σ)[k+j]?=some ((σ[i]?).getD none):=by
 unfold blk;rw[Qb (by simp),Vd,Nat.add_sub_cancel_left,Qc,h];rfl
theorem eh{s:Sl}{d:D}(h:s.ow=some d):s.get≠none:=by cases s<;>first|(cases h;done)|simp[Sl.get]
theorem qg{l:List Nat}{j j' i:Nat}(nd:l.Nodup)(h:l[j]?=some i)(h':l[j']?=some i):j=j':=by
 obtain⟨h1,h2⟩:=Wa.mp h;obtain⟨h3,h4⟩:=Wa.mp h';exact(List.getElem_inj nd).mp (h2.trans h4.symm)
noncomputable def Ob(caps:List Nat)(st:En)(σ:St):AS:=fun p=>∃i∈caps,∃s d,st[i]?=some s/\s.ow=some d/\σ[i]?=some (some (.ref p))
noncomputable def Zb(caps:List Nat)(st:En)(σ:St)(O Z:AS):AS:=fun p=>Z p∨(O p/\¬ Ob caps st σ p)
theorem Ob.o{caps:List Nat}(E:ER K st σ H O Z){q:Addr}(h:Ob caps st σ q):O q:=by
 obtain⟨i,_,s,d,h1,h2,h3⟩:=h;obtain⟨p,g1,g2,_⟩:=E.own i s d h1 h2;rw[h3]at g1;cases g1;exact g2
theorem vw{k:Nat}{caps:List Nat}(E:ER K st σ H O Z)(nd:caps.Nodup):ER K (fP k caps st) (blk k caps σ) H (Ob caps st σ) (Zb caps st σ O Z):=by
 have up:∀b,U (Ob caps st σ) (Zb caps st σ O Z) b->U O Z b:=fun b z=>z.elim (fun y=>.inl (Ob.o E y)) fun y=>y.elim .inr fun w=>.inl w.1;refine⟨by simp[fP,blk],fun i d h=>?_,fun i s d h1 h2=>?_,fun i j s t d d' p h1 h2 h3 h4 h5 h6=>?_,fun p h z=>?_,fun p h=>E.liv p (up p h)⟩
 ·obtain⟨j,i',rfl,hc,hs⟩:=gG h (by simp[Sl.get])
  obtain⟨v,g1,g2⟩:=E.val i' d hs;exact⟨v,by rw[gc hc,g1];rfl,g2.less up⟩
 ·obtain⟨j,i',rfl,hc,hs⟩:=gG h1 (eh h2);obtain⟨p,g1,g2,g3⟩:=E.own i' s d hs h2;exact⟨p,by rw[gc hc,g1];rfl,⟨i',Wi hc,s,d,hs,h2,g1⟩,g3.go rfl (fun _ _ e _=>e) fun b z=>.inl (up b z)⟩
 ·obtain⟨j1,i1,rfl,c1,s1⟩:=gG h1 (eh h2);obtain⟨j2,i2,rfl,c2,s2⟩:=gG h3 (eh h4);obtain⟨p1,g1,_⟩:=E.own i1 s d s1 h2;obtain⟨p2,g2,_⟩:=E.own i2 t d' s2 h4;rw[gc c1,g1]at h5;rw[gc c2,g2]at h6;have e1:p1=p:=by simpa using h5
  have e2:p2=p:=by simpa using h6
  subst e1;subst e2;have e:=E.uni i1 i2 s t d d' _ s1 h2 s2 h4 g1 g2;subst e;rw[qg nd c1 c2]
 ·rcases z with z|z
  ·exact E.dis p (Ob.o E h) z
  ·exact z.2 h
theorem qh{k:Nat}{τ τ':St}(E:ER K st τ H O Z)(hl:τ'.length=τ.length)(hk:k<=st.length)(h:∀j,k<=j->τ'[j]?=τ[j]?):ER K (rst k st) τ' H O Z:=by
 have at_:∀(i:Nat) s,(rst k st)[i]?=some s->s.get≠none->k<=i/\st[i]?=some s:=fun i s e n=>by
  unfold rst at e;by_cases hi:i<k
  ·rw[Xd (by simpa using hi),Yf,if_pos hi]at e
   cases e;exact absurd rfl n
  ·rw[Qb (by simpa using hi),Vd,Zf]at e
   have:k+(i-k)=i:=by lia
   rw[this]at e;exact⟨by lia,e⟩
 refine⟨?_,fun i d e=>?_,fun i s d e1 e2=>?_,fun i j s t d d' p e1 e2 e3 e4 e5 e6=>?_,E.dis,E.liv⟩
 ·rw[hl,← E.len];simp[rst];lia
 ·obtain⟨hk,e⟩:=at_ i _ e (by simp[Sl.get])
  obtain⟨v,g1,g2⟩:=E.val i d e;exact⟨v,by rw[h i hk];exact g1,g2⟩
 ·obtain⟨hk,e⟩:=at_ i _ e1 (eh e2);obtain⟨p,g1,g2⟩:=E.own i s d e e2;exact⟨p,by rw[h i hk];exact g1,g2⟩
 ·obtain⟨hk1,e1⟩:=at_ i _ e1 (eh e2);obtain⟨hk2,e3⟩:=at_ j _ e3 (eh e4);rw[h i hk1]at e5;rw[h j hk2]at e6;exact E.uni i j s t d d' p e1 e2 e3 e4 e5 e6
noncomputable def Oo(caps:List Nat)(st:En)(σ:St)(O Oi:AS):AS:=fun p=>Oi p∨(O p/\¬ Ob caps st σ p)
theorem mI{caps:List Nat}{Oi:AS}(E:ER K st σ H O Z)(x:Ext (Ob caps st σ) H Oi H'):Ext O H (Oo caps st σ O Oi) H' :=
 ⟨fun b o e n=>x.kp b o e fun z=>n (Ob.o E z),fun b z=>z.elim (fun y=>(x.nw b y).elim (fun w=>.inl (Ob.o E w)) .inr) fun y=>.inl y.1,x.al,x.lv⟩
theorem qi{k:Nat}{caps:List Nat}{Oi:AS}{sb:En}(E:ER K st σ H O Z)(nd:caps.Nodup)(lt:∀i∈caps,i<st.length)(hl:sb.length=k+caps.length)(x:Ext (Ob caps st σ) H Oi H')(B:ER K sb (blk k caps σ) H' Oi (Zb caps st σ O Z)) :
  ER K (wb caps (sb.drop k) st) σ H' (Oo caps st σ O Oi) Z:=by
 have dl:(sb.drop k).length=caps.length:=by rw[Wc];lia
 have cap:∀(j i:Nat),caps[j]?=some i->(wb caps (sb.drop k) st)[i]?=sb[k+j]?:=fun j i h=>by
  rw[qf caps _ st nd dl h (lt i (Wi h)),Zf]
 have out:∀i,i∉caps->(wb caps (sb.drop k) st)[i]?=st[i]?:=fun i h=>ja caps _ st h;have same:∀b,U (Oo caps st σ O Oi) Z b->U Oi (Zb caps st σ O Z) b:=fun b z=>by
  rcases z with(z|z)|z
  ·exact .inl z
  ·exact .inr (.inr z)
  ·exact .inr (.inl z)
 have kp:∀b o,H b=some o->¬ U O Z b->H' b=some o:=fun b o e n=>x.kp b o e fun z=>n (.inl (Ob.o E z));have nn:∀b,U (Oo caps st σ O Oi) Z b->U O Z b∨H b=none:=fun b z=>by
  rcases z with z|z
  ·exact((mI E x).nw b z).elim (fun y=>.inl (.inl y)) .inr
  ·exact .inl (.inr z)
 have nob:∀(i:Nat) s d p,i∉caps->st[i]?=some s->s.ow=some d->σ[i]?=some (some (.ref p))->¬ Ob caps st σ p:=fun i s d p hn h1 h2 h3 z=>by
  obtain⟨i0,hm,s0,d0,g1,g2,g3⟩:=z;have:=E.uni i i0 s s0 d d0 p h1 h2 g1 g2 h3 g3;subst this;exact hn hm
 have bget:∀{j i:Nat}{v:V},caps[j]?=some i->(blk k caps σ)[k+j]?=some (some v)->σ[i]?=some (some v):=fun {j i v} hc hb=>by
  rw[gc hc]at hb;have hb':=Option.some.inj hb;cases q:σ[i]? with
  | none=>rw[q]at hb';cases hb'
  | some w=>rw[q]at hb';have:w=some v:=hb';rw[this]
 have own:∀(i:Nat) s d,(wb caps (sb.drop k) st)[i]?=some s->s.ow=some d->(∃j,caps[j]?=some i/\sb[k+j]?=some s)∨(i∉caps/\st[i]?=some s):=fun i s d h1 _=>by
  by_cases hc:i∈caps
  ·obtain⟨j,hj⟩:=Yg hc;rw[cap j i hj]at h1;exact .inl ⟨j,hj,h1⟩
  ·rw[out i hc]at h1;exact .inr ⟨hc,h1⟩
 refine⟨by rw[mH];exact E.len,fun i d h=>?_,fun i s d h1 h2=>?_,fun i j s t d d' p h1 h2 h3 h4 h5 h6=>?_,fun p h=>?_,fun p h=>?_⟩
 ·by_cases hc:i∈caps
  ·obtain⟨j,hj⟩:=Yg hc;rw[cap j i hj]at h;obtain⟨v,g1,g2⟩:=B.val _ d h;exact⟨v,bget hj g1,g2.less same⟩
  ·rw[out i hc]at h;obtain⟨v,g1,g2⟩:=E.val i d h;exact⟨v,g1,g2.go kp nn⟩
 ·rcases own i s d h1 h2 with⟨j,hj,hs⟩|⟨hc,hs⟩
  ·obtain⟨p,g1,g2,g3⟩:=B.own _ s d hs h2;exact⟨p,bget hj g1,.inl g2,g3.go rfl (fun _ _ e _=>e) fun b z=>.inl (same b z)⟩
  ·obtain⟨p,g1,g2,g3⟩:=E.own i s d hs h2;have nb:=nob i s d p hc hs h2 g1;refine⟨p,g1,.inr ⟨g2,nb⟩,g3.go ?_ kp nn⟩;cases q:H p with
   | none=>exact absurd q g3.live
   | some o=>exact x.kp p o q nb
 ·rcases own i s d h1 h2 with⟨j1,c1,s1⟩|⟨c1,s1⟩<;>rcases own j t d' h3 h4 with⟨j2,c2,s2⟩|⟨c2,s2⟩
  ·have e:=B.uni _ _ s t d d' p s1 h2 s2 h4 (by rw[gc c1,h5];rfl) (by rw[gc c2,h6];rfl)
   have e':j1=j2:=by lia
   subst e';rw[c1]at c2;exact Option.some.inj c2
  ·exfalso
   obtain⟨q,g1,g2,_⟩:=B.own _ s d s1 h2;have:=bget c1 g1;rw[h5]at this;cases this;have nb:=nob j t d' p c2 s2 h4 h6;obtain⟨q2,k1,_,k3⟩:=E.own j t d' s2 h4;rw[h6]at k1;cases k1;exact(x.nw p g2).elim nb k3.live
  ·exfalso
   obtain⟨q,g1,g2,_⟩:=B.own _ t d' s2 h4;have:=bget c2 g1;rw[h6]at this;cases this;have nb:=nob i s d p c1 s1 h2 h5;obtain⟨q2,k1,_,k3⟩:=E.own i s d s1 h2;rw[h5]at k1;cases k1;exact(x.nw p g2).elim nb k3.live
  ·exact E.uni i j s t d d' p s1 h2 s2 h4 h5 h6
 ·rcases h with h|h
  ·exact fun z=>B.dis p h (.inl z)
  ·exact E.dis p h.1
 ·rcases h with(h|h)|h
  ·exact B.liv p (.inl h)
  ·exact x.lv p (E.liv p (.inl h.1))
  ·exact x.lv p (E.liv p (.inr h))
theorem qj{k:Nat}{a b:En}(h0:∀(i:Nat) s,a[i]?=some s->i<k->s=.e)(h:Kp a b)(hk:k<=b.length):Kp a (rst k b):=by
 have lk:(rst k b).length=b.length:=by simp[rst];lia
 have at_:∀i,k<=i->(rst k b)[i]?=b[i]?:=fun i hi=>by
  unfold rst;rw[Qb (by simpa using hi),Vd,Zf]
  congr 1;lia
 refine⟨lk.trans h.len,fun i s e g=>?_,fun i d e=>?_⟩
 ·by_cases hi:i<k
  ·have:=h0 i s e hi;subst this;exact absurd rfl g
  ·obtain⟨s',e',g'⟩:=h.has i s e g;exact⟨s',by rw[at_ i (by lia)];exact e',g'⟩
 ·by_cases hi:i<k
  ·have:=h0 i _ e hi;cases this
  ·obtain⟨d',e'⟩:=h.io i d e;exact⟨d',by rw[at_ i (by lia)];exact e'⟩
theorem wK{k:Nat}{caps:List Nat}{sb:En}(nd:caps.Nodup)(lt:∀i∈caps,i<st.length)(hl:sb.length=k+caps.length)(h:Kp (fP k caps st) sb):Kp st (wb caps (sb.drop k) st):=by
 have dl:(sb.drop k).length=caps.length:=by rw[Wc];lia
 have cap:∀(j i:Nat),caps[j]?=some i->(wb caps (sb.drop k) st)[i]?=sb[k+j]?:=fun j i h=>by
  rw[qf caps _ st nd dl h (lt i (Wi h)),Zf]
 refine⟨mH _ _ _,fun i s e g=>?_,fun i d e=>?_⟩
 ·by_cases hc:i∈caps
  ·obtain⟨j,hj⟩:=Yg hc;rw[cap j i hj];exact h.has (k+j) s (by rw[nR hj,e];rfl) g
  ·exact⟨s,by rw[ja _ _ _ hc];exact e,g⟩
 ·by_cases hc:i∈caps
  ·obtain⟨j,hj⟩:=Yg hc;rw[cap j i hj];exact h.io (k+j) d (by rw[nR hj,e];rfl)
  ·exact⟨d,by rw[ja _ _ _ hc];exact e⟩
theorem kD{k:Nat}{caps:List Nat}(i:Nat)(s:Sl)(h:(fP k caps st)[i]?=some s)(hi:i<k):s=.e:=by
 unfold fP at h;rw[Xd (by simpa using hi),Yf,if_pos hi]at h
 exact(Option.some.inj h).symm
noncomputable def ItC(K:PySem.W.Frag)(Z:AS)(caps:List Nat)(st:En)(σ:St)(J:It)(items:List D)(H:Hp)(O:AS):Prop:=∀H' Oi,Ext (Ob caps st σ) H Oi H'->(∀p,U (Oo caps st σ O Oi) Z p->Lv H' p)->(∀i,items.length<=i->J.stop i H')/\∀(i:Nat) d,items[i]?=some d->J.go i H'/\∀x H'',J.yld i H' x H''->Same H' H''/\DA K (U (Oo caps st σ O Oi) Z) H'' x d
noncomputable def wL(K:PySem.W.Frag)(caps:List Nat)(wi:TI)(fi:FI):Prop:=∀(st:En)(σ:St)(H:Hp)(O Z:AS)(R:It->Hp->Prop),ER K st σ H O Z->∀items st',fi st=some (items,st') ->
 (∀J H' O',Ext O H O' H'->Kp st st'->ER K st' σ H' O' Z->ItC K Z caps st' σ J items H' O'->R J H')->wi σ H R
theorem RdI.ic{caps:List Nat}{wi:TI}{fi:FI}(h:RdI K wi fi):wL K caps wi fi:=fun st σ H O Z R E items st' e q =>
 h st σ H O Z R E items st' e fun J H1 O1 x1 k1 E1 it=>q J H1 O1 x1 k1 E1 fun H' Oi x2 lv=>it H' _ (mI E1 x2) lv
theorem qk{k:Nat}{caps:List Nat}{wi:TI}{fi:FI}{g:TG}{fg:FG}{tg:List Nat}{tc:TT}{fc:FT}{te:TE}{fe:FE}(hi:wL K caps wi fi)(hg:RdG K g fg tg)(ht:∀j∈tg,j<k)(hc:RdT K tc fc)(he:RdE K te fe) :
  RdE K (nP k caps wi g tc te) (ef k caps fi fg fc fe):=by
 intro st σ H O Z Q E r st' h q;refine bsP h fun items st1 e1 h=>?_;by_cases hok:(kC caps st1.length&&decide (items.length<=1000000))=true
 rotate_left
 ·simp only[if_neg hok]at h;cases h
 simp only[if_pos hok]at h;refine bsP h fun total sf e2 h=>?_;cases h;have hok1:caps.Nodup/\(∀i∈caps,i<st1.length)/\items.length<=1000000:=by
  rw[Vc,decide_eq_true_eq]at hok;unfold kC at hok;rw[Vc,decide_eq_true_eq,Vi]at hok;exact⟨hok.1.1,fun i hi=>of_decide_eq_true (hok.1.2 i hi),hok.2⟩
 obtain⟨nd,lt,hfew⟩:=hok1;refine hi st σ H O Z _ E items st1 e1 fun J H1 O1 x1 k1 E1 it=>?_;have bl:(blk k caps σ).length=k+caps.length:=by simp[blk]
 have el:(fP k caps st1).length=k+caps.length:=by simp[fP]
 refine⟨items.length,fun i xs H'=>∃sb Oi ds ds2,Ext (Ob caps st1 σ) H1 Oi H'/\ER K sb (blk k caps σ) H' Oi (Zb caps st1 σ O1 Z)/\El K (U Oi (Zb caps st1 σ O1 Z)) H' xs ds/\cY fg fc fe k (items.drop i) sb=some (ds2,sf)/\ds++ds2=total/\Kp (fP k caps st1) sb/\xs.length<=i,
  ⟨fP k caps st1,Ob caps st1 σ,[],total,Ext.refl _ _,vw E1 nd,El.nil,e2,rfl,Kp.refl _,Xa _⟩,?_,?_⟩
 ·rintro xs H' ⟨sb,Oi,ds,ds2,x2,B,exs,e3,ed,kb,_⟩;rw[List.drop_eq_nil_of_le (Xa _)]at e3;obtain⟨rfl,rfl⟩:([]:List D)=ds2/\sb=sf:=by
   have:=Option.some.inj e3;exact⟨congrArg Prod.fst this,congrArg Prod.snd this⟩
  rw[Xe]at ed;subst ed;obtain⟨stop,_⟩:=it H' Oi x2 (qi E1 nd lt (kb.len.trans el) x2 B).liv;refine⟨stop _ (Xa _),fun p hp=>?_⟩;have sl:sb.length=k+caps.length:=kb.len.trans el;have Eo:=qi E1 nd lt sl x2 B;have ko:=wK nd lt sl kb;have el2:El K (U (Oo caps st1 σ O1 Oi) Z) H' xs ds:=exs.less fun b z=>by
   rcases z with(z|z)|z
   ·exact .inl z
   ·exact .inr (.inr z)
   ·exact .inr (.inl z)
  obtain⟨E3,rv⟩:=Eo.new hp el2;have xx:=x1.trans (mI E1 x2);exact q _ _ _ (xx.trans (Same.ext (aY hp _))) (k1.trans ko) E3 rv fun p' e=>by cases e;exact xx.dead hp
 ·rintro i xs H' hlt ⟨sb,Oi,ds,ds2,x2,B,exs,e3,ed,kb,hxl⟩;have hd:items.drop i=items[i]::items.drop (i+1):=List.drop_eq_getElem_cons hlt;rw[hd]at e3;refine bsO e3 fun s1 e4 e3=>?_;refine bsP e3 fun c s2 e5 e3=>?_;obtain⟨_,go⟩:=it H' Oi x2 (qi E1 nd lt (kb.len.trans el) x2 B).liv;obtain⟨g1,g2⟩:=go i _ (Va hlt);refine⟨g1,Nat.lt_of_le_of_lt hxl (Yb hlt (few hfew)),fun x H'' hy=>?_⟩;obtain⟨sm,da⟩:=g2 x H'' hy;have xm:Ext Oi H' Oi H'':=Same.ext sm;have da':DA K (U Oi (Zb caps st1 σ O1 Z)) H'' x items[i]:=da.less fun b z=>by
   rcases z with z|z|z
   ·exact .inl (.inl z)
   ·exact .inr z
   ·exact .inl (.inr z)
  refine hg sb _ H'' Oi _ x _ _ (B.same sm) da' s1 e4 fun τ kt kq3 E4=>?_;have sl:sb.length=k+caps.length:=kb.len.trans el;have tl:τ.length=(blk k caps σ).length:=by rw[← E4.len,kq3.len,sl,bl]
  have tk:∀j,k<=j->(blk k caps σ)[j]?=τ[j]?:=fun j hj=>((kt j fun z=>absurd (ht j z) (by lia)).1).symm
  have drop:τ.drop k=(blk k caps σ).drop k:=by
   refine List.ext_getElem? fun j=>?_;rw[Zf,Zf];exact(tk _ (by lia)).symm
  have kp1:Kp (fP k caps st1) s1:=by
   refine⟨kq3.len.trans kb.len,fun j s e g=>?_,fun j d e=>?_⟩
   ·by_cases hj:j<k
    ·have:=kD j s e hj;subst this;exact absurd rfl g
    ·obtain⟨s',e',g'⟩:=kb.has j s e g;exact⟨s',by rw[(kt j fun z=>absurd (ht j z) (by lia)).2];exact e',g'⟩
   ·by_cases hj:j<k
    ·have:=kD j _ e hj;cases this
    ·obtain⟨d',e'⟩:=kb.io j d e;exact⟨d',by rw[(kt j fun z=>absurd (ht j z) (by lia)).2];exact e'⟩
  refine hc s1 τ H'' Oi _ _ E4 c s2 e5 fun H3 O3 x3 k3 E5=>?_;have kp2:=kp1.trans k3;cases c with
  | false =>
   simp only[Zd,if_false]at e3 ⊢;have hs2:k<=s2.length:=by rw[kp2.len,el];lia
   exact⟨drop,rst k s2,O3,ds,ds2,(x2.trans xm).trans x3,qh E5 tl.symm hs2 tk,exs.ext (xm.trans x3),e3,ed,qj kD kp2 hs2,by lia⟩
  | true =>
   rw[if_pos rfl]at e3 ⊢;refine bsP e3 fun ry s3 e6 e3=>?_;refine bsP e3 fun dy s4 e7 e3=>?_;refine bsP e3 fun ds3 sf' e8 e3=>?_;cases e3;refine he s2 τ H3 O3 _ _ E5 ry s3 e6 fun y H4 O4 x4 k4 E6 rv w=>?_;obtain⟨O5,x5,k5,E7,day⟩:=rv.esc E6 e7;have kp3:=(kp2.trans k4).trans k5;have hs4:k<=s4.length:=by rw[kp3.len,el];lia
   refine⟨drop,rst k s4,O5,ds++[dy],ds3,(((x2.trans xm).trans x3).trans x4).trans x5,qh E7 tl.symm hs4 tk,(exs.ext (((xm.trans x3).trans x4).trans x5)).app (El.one day),e8,by rw[Xg];exact ed,qj kD kp3 hs4,by simp;lia⟩
theorem fD{k:Nat}{caps:List Nat}{wi:TI}{fi:FI}{g:TG}{fg:FG}{tg:List Nat}{tc:TT}{fc:FT}{te:TE}{fe:FE}(hi:RdI K wi fi)(hg:RdG K g fg tg)(ht:∀j∈tg,j<k)(hc:RdT K tc fc)(he:RdE K te fe) :
  RdE K (nP k caps wi g tc te) (ef k caps fi fg fc fe):=qk hi.ic hg ht hc he
noncomputable def et(n:Nat)(ds:List D):En:=ds.map Sl.v++List.replicate (n-ds.length) Sl.e
noncomputable def vx(st:En):Rs->Option Rz
 | .d x=>some (x,false)
 | .f x=>some (x,true)
 | .s i=>match st[i]? with
  | some (.o x)=>some (x,true)
  | some (.v x)=>some (x,false)
  | _=>none
noncomputable def fin:Ot->Option Rz
 | .nx _=>some (.non,false)
 | .rt r st=>vx st r
 | _=>none
noncomputable def bu(F:FS)(n m:Nat):List D->Option Rz:=fun ds=>if ds.length=m then(F (et n ds)).bind fin else none
theorem lE{N:List Str}(el:El K Z H vs ds)(lv:∀p,Z p->Lv H p):ER K (et N.length ds) (L2.start N vs) H (fun _=>False) Z:=by
 have gv:∀(i:Nat) s,(et N.length ds)[i]?=some s->s.get≠none->∃d,s=.v d/\ds[i]?=some d:=fun i s e n=>by
  unfold et at e;by_cases hi:i<ds.length
  ·rw[Xd (by simpa using hi),Qc]at e
   obtain⟨d,h1,h2⟩:=We.mp e;exact⟨d,h2.symm,h1⟩
  ·rw[Qb (by simpa using hi),Yf]at e
   by_cases hz:i-(ds.map Sl.v).length<N.length-ds.length
   ·rw[if_pos hz]at e;cases e;exact absurd rfl n
   ·rw[if_neg hz]at e;cases e
 have no:∀(i:Nat) s d,(et N.length ds)[i]?=some s->s.ow=some d->False:=fun i s d e h=>by
  obtain⟨x,rfl,_⟩:=gv i s e (eh h);cases h
 refine⟨by simp[et,L2.start,el.1],fun i d e=>?_,fun i s d e h=>(no i s d e h).elim,fun i j s t d d' p e h=>(no i s d e h).elim,fun p h=>h.elim,fun p h=>h.elim (fun z=>z.elim) (lv p)⟩
 obtain⟨x,h1,h2⟩:=gv i _ e (by simp[Sl.get])
 cases h1;obtain⟨v,g1,g2⟩:=el.at h2;refine⟨v,?_,g2.less fun b z=>z.elim (fun y=>y.elim) fun y=>y⟩;unfold L2.start;have hi:=(Wa.mp g1).1;rw[Xd (by simpa using hi),Qc,g1];rfl
theorem nS{ts:TS}{F:FS}{N:List Str}{Q:VK}{XE:XK}(h:RdS K ts F){m:Nat}(sp:spV K (bu F N.length m) vs H Q XE):ts { nx:=fun _ H'=>Q .non H',rt:=Q } (L2.start N vs) H:=by
 obtain⟨Z,ds,z,el,lv,e,q⟩:=sp;have hm:ds.length=m:=by
  by_cases hm:ds.length=m
  ·exact hm
  ·simp only[bu,if_neg hm]at e;cases e
 simp only[bu,if_pos hm]at e;refine bsO e fun o e1 e2=>?_;have same:∀{O':AS}{H':Hp},Ext (fun _=>False) H O' H'->Same H H':=fun {O' H'} x b o e=>x.kp b o e fun z=>z;refine h _ _ H _ Z _ (lE el lv) o e1 ?_;cases o with
 | nx s =>
  cases e2;exact fun σ' H' O' x _ _=>q .non H' (same x) .non
 | bk s=>cases e2
 | ct s=>cases e2
 | rt r s =>
  intro v σ' H' O' x k E rv w;have sub:∀b,Z b->U O' Z b:=fun b z=>.inr z;cases r with
  | d y=>cases e2;exact q v H' (same x) (DA.less (show DA K (U O' Z) H' v y from rv) sub)
  | f y =>
   cases e2;obtain⟨p,rfl,h1,h2,h3,_⟩:=rv;exact q _ H' (same x) ⟨p,rfl,w p rfl,h3.go rfl (fun _ _ e _=>e) fun b z=>.inl (z.elim .inl fun y=>.inr (.inr y))⟩
  | s i =>
   obtain⟨h1,t,h2,h3⟩:=rv
   have e2':(match s[i]? with
    | some (.o x)=>some (x,true)
    | some (.v x)=>some (x,false)
    | _=>none)=some z:=e2
   rw[h2]at e2';cases t with
   | e=>cases e2'
   | io y=>cases e2'
   | v y =>
    cases e2';obtain⟨u,g1,g2⟩:=E.val i y h2;rw[h1]at g1;cases g1;exact q v H' (same x) (g2.less sub)
   | o y =>
    cases e2';obtain⟨p,g1,g2,g3⟩:=E.own i _ y h2 rfl;rw[h1]at g1;cases g1;refine q _ H' (same x) ⟨p,rfl,(x.nw p g2).elim (fun z=>z.elim) (fun z=>z),g3.go rfl (fun _ _ e _=>e) fun b z=>.inl (z.elim (fun y=>.inl (by rw[y];exact g2)) fun y=>.inr y)⟩
noncomputable def du(n:Nat)(x:D)(ds:List D):En:=Sl.io x::(ds.map Sl.v++List.replicate (n-(ds.length+1)) Sl.e)
noncomputable def oZ(z:Option Rz)(st:En):Option (Rz×D):=match st[0]? with
 | some (Sl.io x)=>z.bind fun y=>some (y,x)
 | _=>none
noncomputable def uo:Ot->Option (Rz×D)
 | .nx st=>oZ (some (.non,false)) st
 | .rt r st=>oZ (vx st r) st
 | _=>none
noncomputable def bV(F:FS)(n m:Nat):D->List D->Option (Rz×D):=fun x ds=>if ds.length+1=m then(F (du n x ds)).bind uo else none
theorem o0{N : List Str}{f : Addr}{x : D}{ws : List V}(nz : ¬ Z f)(ho : OA K (ins f Z) H f x)(el : El K (ins f Z) H ws ds)(lv : ∀ p, Z p → Lv H p) : ER K (du N.length x ds) (L2.start N (.ref f :: ws)) H (fun b => b = f) Z := by
  have gv : ∀ (i : Nat) s, (du N.length x ds)[i]? = some s → s.get ≠ none → (i = 0 ∧ s = .io x) ∨ ∃ j d, i = j + 1 ∧ s = .v d ∧ ds[j]? = some d := fun i s e n => by
    cases i with
    | zero => left; exact ⟨rfl, by have : Sl.io x = s := by simpa [du] using e
                                   exact this.symm⟩
    | succ j =>
      right;have e : (ds.map Sl.v ++ List.replicate (N.length - (ds.length + 1)) Sl.e)[j]? = some s := by simpa [du] using e
      by_cases hi : j < ds.length
      · rw [List.getElem?_append_left (by simpa using hi), List.getElem?_map] at e
        obtain ⟨d, h1, h2⟩ := Option.map_eq_some_iff.mp e;exact ⟨j, d, rfl, h2.symm, h1⟩
      · rw [List.getElem?_append_right (by simpa using hi), List.getElem?_replicate] at e
        by_cases hz : j - (ds.map Sl.v).length < N.length - (ds.length + 1)
        · rw [if_pos hz] at e; cases e; exact absurd rfl n
        · rw [if_neg hz] at e; cases e
  have s0 : (L2.start N (.ref f :: ws))[0]? = some (some (.ref f)) := by simp [L2.start]
  have own0 : ∀ (i : Nat) s d, (du N.length x ds)[i]? = some s → s.ow = some d → i = 0 ∧ d = x := fun i s d e h => by
    rcases gv i s e (eh h) with ⟨h1, rfl⟩ | ⟨j, d', _, rfl, _⟩
    · cases h; exact ⟨h1, rfl⟩
    · cases h
  refine ⟨by simp [du, L2.start, el.1], fun i d e => ?_, fun i s d e h => ?_, fun i j s t d d' p e h e' h' _ _ => ?_, fun p h => by rw [h]; exact nz, fun p h => ?_⟩
  · rcases gv i _ e (by simp [Sl.get]) with ⟨_, h⟩ | ⟨j, d', rfl, h, h2⟩
    · cases h
    · cases h
      obtain ⟨v, g1, g2⟩ := el.at h2;refine ⟨v, ?_, g2⟩;have hi := (List.getElem?_eq_some_iff.mp g1).1;unfold L2.start;rw [List.getElem?_append_left (by simp; lia), List.getElem?_map]
      simp [g1]
  · obtain ⟨rfl, rfl⟩ := own0 i s d e h
    exact ⟨f, s0, rfl, ho⟩
  · rw [(own0 i s d e h).1, (own0 j t d' e' h').1]
  · rcases h with h | h
    · rw [h]; exact ho.lv
    · exact lv p h
set_option tactic.hygienic true in
theorem o3{ts:TS}{F:FS}{N:List Str}{Q:VK}{XE:XK}(h:RdS K ts F){m:Nat}(sp:g7 K (bV F N.length m) vs H Q XE):ts { nx:=fun _ H'=>Q .non H',rt:=Q } (L2.start N vs) H:=by
 obtain⟨f,ws,Z,x,ds,z,x',rfl,nz,ho,el,lv,e,q⟩:=sp;have hm:ds.length+1=m:=by
  by_cases hm:ds.length+1=m
  ·exact hm
  ·simp only[bV,if_neg hm]at e;cases e
 simp only[bV,if_pos hm]at e;refine bsO e fun o e1 e2=>?_;have but:∀{O':AS}{H':Hp},Ext (fun b=>b=f) H O' H'->∀b o,H b=some o->b≠f->H' b=some o:=fun {O' H'} x b o e n=>x.kp b o e n;have i0:(du N.length x ds)[0]?=some (.io x):=rfl;have s0:(L2.start N (.ref f::ws))[0]?=some (some (.ref f)):=by simp[L2.start]
 have f0:∀{s:En}{σ':St}{H':Hp}{O':AS}{y:D},Kq (du N.length x ds) (L2.start N (.ref f::ws)) s σ'->ER K s σ' H' O' Z->s[0]?=some (.io y)->O' f/\OA K (U O' Z) H' f y:=fun {s σ' H' O' y} k E e=>by
  obtain⟨g1,_⟩:=k.io 0 x i0;obtain⟨p,h1,h2,h3⟩:=E.own 0 _ y e rfl;rw[g1,s0]at h1;cases h1;exact⟨h2,h3⟩
 refine h _ _ H _ Z _ (o0 nz ho el lv) o e1 ?_;cases o with
 | bk s=>cases e2
 | ct s=>cases e2
 | nx s =>
  intro σ' H' O' x2 k E;have e3:oZ (some (.non,false)) s=some (z,x'):=e2;unfold oZ at e3;split at e3
  ·rename_i y ey
   cases e3;obtain⟨h1,h2⟩:=f0 k E ey;exact q .non H' (but x2) ⟨.non,h2.go rfl (fun _ _ e _=>e) fun b z=>.inl (z.elim (fun w=>.inl (by rw[w];exact h1)) .inr)⟩
  ·cases e3
 | rt r s =>
  intro v σ' H' O' x2 k E rv w;have e3:oZ (vx s r) s=some (z,x'):=e2;unfold oZ at e3;split at e3
  ·rename_i y ey
   refine bsO e3 fun z' e4 e3=>?_;cases e3;obtain⟨h1,h2⟩:=f0 k E ey;have sub:∀b,ins f Z b->U O' Z b:=fun b z=>z.elim (fun w=>.inl (by rw[w];exact h1)) .inr
   cases r with
   | d u=>cases e4;exact q v H' (but x2) ⟨DA.less (show DA K (U O' Z) H' v u from rv) sub,h2.go rfl (fun _ _ e _=>e) fun b z=>.inl (sub b z)⟩
   | f u =>
    cases e4;obtain⟨p,rfl,g1,g2,g3,E2⟩:=rv;obtain⟨h3,h4⟩:=f0 k E2 ey;exact q _ H' (but x2) ⟨p,rfl,w p rfl,g3.go rfl (fun _ _ e _=>e) (fun b z=>.inl (z.elim .inl fun y=>.inr (sub b y))),h4.go rfl (fun _ _ e _=>e) fun b z=>.inl (z.elim (fun y=>.inl (.inl y)) fun y=>(sub b y).elim (fun a=>.inl (.inr a)) .inr)⟩
   | s i =>
    obtain⟨g1,t,g2,g3⟩:=rv
    have e5:(match s[i]? with
     | some (.o x)=>some (x,true)
     | some (.v x)=>some (x,false)
     | _=>none)=some z:=e4
    rw[g2]at e5;cases t with
    | e=>cases e5
    | io u=>cases e5
    | v u =>
     cases e5;obtain⟨u',j1,j2⟩:=E.val i u g2;rw[g1]at j1;cases j1;exact q v H' (but x2) ⟨j2.less sub,h2.go rfl (fun _ _ e _=>e) fun b z=>.inl (sub b z)⟩
    | o u =>
     cases e5;obtain⟨p,j1,j2,j3⟩:=E.own i _ u g2 rfl;rw[g1]at j1;cases j1;have npf:p≠f:=fun z=>by
      subst z;obtain⟨p0,l1,_⟩:=E.own 0 _ _ ey rfl;obtain⟨l2,_⟩:=k.io 0 x i0;rw[l2,s0]at l1;cases l1;have:=E.uni i 0 _ _ u _ _ g2 rfl ey rfl g1 (by rw[l2,s0])
      subst this;rw[ey]at g2;cases g2
     have hp:H p=none:=(x2.nw p j2).elim (fun z=>absurd z npf) (fun z=>z);have sub2:∀b,ins p (ins f Z) b->U O' Z b:=fun b z=>z.elim (fun y=>.inl (by rw[y];exact j2)) (sub b)
     exact q _ H' (but x2) ⟨p,rfl,hp,j3.go rfl (fun _ _ e _=>e) (fun b z=>.inl (sub2 b z)),h2.go rfl (fun _ _ e _=>e) fun b z=>.inl (sub2 b z)⟩
  ·cases e3
theorem sy{F:FS}{n m:Nat}{Q:VK}{XE:XK}(sp:spV K (bu F n m) vs H Q XE):vs.length=m:=by
 obtain⟨Z,ds,z,el,lv,e,q⟩:=sp;by_cases hm:ds.length=m
 ·exact el.1.trans hm
 ·simp only[bu,if_neg hm]at e;cases e
theorem wM{F:FS}{n m:Nat}{Q:VK}{XE:XK}(sp:g7 K (bV F n m) vs H Q XE):vs.length=m:=by
 obtain⟨f,ws,Z,x,ds,z,x',rfl,nz,ho,el,lv,e,q⟩:=sp;by_cases hm:ds.length+1=m
 ·have:=el.1;simp;lia
 ·simp only[bV,if_neg hm]at e;cases e
end
end VF
namespace VF
open PySem L2
section
variable {K:PySem.W.Frag}{Y Y':AS}{H H':Hp}{v:V}{d:D}{vs:List V}{ds:List D}
noncomputable def orD(b b':D->D->Option Rz):D->D->Option Rz:=fun x y=>match b x y with
 | some z=>some z
 | none=>b' x y
set_option tactic.hygienic true in
theorem RdOp.or{r r':R2}{b b':D->D->Option Rz}(h:RdOp K r b)(h':RdOp K r' b'):RdOp K (fun x y H Q=>r x y H Q∨r' x y H Q) (orD b b'):=by
 intro Y H x y d1 d2 z Q lv b1 b2 e q;unfold orD at e;split at e
 ·rename_i z' ez
  cases e;exact .inl (h Y H x y d1 d2 z Q lv b1 b2 ez q)
 ·exact .inr (h' Y H x y d1 d2 z Q lv b1 b2 e q)
noncomputable def orC(b b':List D->Option Rz):List D->Option Rz:=fun x=>match b x with
 | some z=>some z
 | none=>b' x
set_option tactic.hygienic true in
theorem RdCB.or{r r':List V->Hp->VK->Prop}{b b':List D->Option Rz}(h:RdCB K r b)(h':RdCB K r' b'):RdCB K (fun xs H Q=>r xs H Q∨r' xs H Q) (orC b b'):=by
 intro Y H xs ds z Q lv b1 e q;unfold orC at e;split at e
 ·rename_i z' ez
  cases e;exact .inl (h Y H xs ds z Q lv b1 ez q)
 ·exact .inr (h' Y H xs ds z Q lv b1 e q)
noncomputable def bI0(g:Int->Int->D):D->D->Option Rz
 | .int i,.int j=>some (g i j,false)
 | _,_=>none
theorem jW{gV:Int->Int->V}{gD:Int->Int->D}(h:∀Y H i j,DA K Y H (gV i j) (gD i j)):RdOp K (rI0 gV) (bI0 gD):=by
 intro Y H x y d1 d2 z Q lv b1 b2 e q;cases d1 with
 | int i =>
  cases d2 with
  | int j =>
   cases e;exact⟨i,j,b1,b2,q _ H (Same.refl H) (h Y H i j)⟩
  | _=>cases e
 | _=>cases e
noncomputable def bI(C:Int->Int->Prop)[∀i j,Decidable (C i j)](g:Int->Int->D):D->D->Option Rz
 | .int i,.int j=>if C i j then some (g i j,false) else none
 | _,_=>none
theorem sA{C:Int->Int->Prop}[dc:∀i j,Decidable (C i j)]{gV:Int->Int->V}{gD:Int->Int->D}(h:∀Y H i j,DA K Y H (gV i j) (gD i j)):RdOp K (rI C gV) (bI C gD):=by
 intro Y H x y d1 d2 z Q lv b1 b2 e q;cases d1 with
 | int i =>
  cases d2 with
  | int j =>
   obtain⟨c,e⟩:=aE e;cases e;exact⟨i,j,b1,b2,c,q _ H (Same.refl H) (h Y H i j)⟩
  | _=>cases e
 | _=>cases e
noncomputable instance (i j:Int):Decidable (CMul i j):=by unfold CMul;infer_instance
noncomputable instance (i j:Int):Decidable (mq i j):=by unfold mq;infer_instance
noncomputable instance (i j:Int):Decidable (pK i j):=by unfold pK;infer_instance
noncomputable def lF:=bI0 fun i j=>.int (i+j)
noncomputable def jF:=bI0 fun i j=>.int (i-j)
noncomputable def nU:=bI CMul fun i j=>.int (i*j)
noncomputable def mJ:=bI mq fun i j=>.int (i / j)
noncomputable def jb:=bI (fun _ j=>0<j) fun i j=>.int (i % j)
noncomputable def vy:=bI pK fun i j=>.int (i ^ j.toNat)
noncomputable def wN:=bI0 fun i j=>.bl (decide (i<j))
noncomputable def bLe:=bI0 fun i j=>.bl (decide (i<=j))
noncomputable def bGt:=bI0 fun i j=>.bl (decide (j<i))
noncomputable def bGe:=bI0 fun i j=>.bl (decide (j<=i))
theorem ro_addI:RdOp K (rI0 fun i j=>.int (i+j)) lF:=jW fun _ _ _ _=>.int _
theorem dN:RdOp K (rI0 fun i j=>.int (i-j)) jF:=jW fun _ _ _ _=>.int _
theorem ro_mulI:RdOp K (rI CMul fun i j=>.int (i*j)) nU:=sA fun _ _ _ _=>.int _
theorem kE:RdOp K (rI mq fun i j=>.int (i / j)) mJ:=sA fun _ _ _ _=>.int _
theorem eE:RdOp K (rI (fun _ j=>0<j) fun i j=>.int (i % j)) jb:=sA fun _ _ _ _=>.int _
theorem ql:RdOp K (rI pK fun i j=>.int (i ^ j.toNat)) vy:=sA fun _ _ _ _=>.int _
theorem ro_ltI:RdOp K (rI0 fun i j=>.bl (decide (i<j))) wN:=jW fun _ _ _ _=>.bl _
theorem fU:RdOp K (rI0 fun i j=>.bl (decide (i<=j))) bLe:=jW fun _ _ _ _=>.bl _
theorem wO:RdOp K (rI0 fun i j=>.bl (decide (j<i))) bGt:=jW fun _ _ _ _=>.bl _
theorem wP:RdOp K (rI0 fun i j=>.bl (decide (j<=i))) bGe:=jW fun _ _ _ _=>.bl _
noncomputable def wQ:D->Option Rz
 | .int i=>some (.int (-i),false)
 | _=>none
theorem vz:wH K (rU fun i=>.int (-i)) wQ:=by
 intro Y H x d1 z Q lv b1 e q;cases d1 with
 | int i=>cases e;exact⟨i,b1,q _ H (Same.refl H) (.int _)⟩
 | _=>cases e
noncomputable def scD:D->Option V
 | .non=>some .non
 | .bl b=>some (.bl b)
 | .int i=>some (.int i)
 | .str x=>some (.str x)
 | _=>none
theorem g8{w:V}(h:BA K Y H v d)(e:scD d=some w):v=w:=by
 cases d with
 | non=>cases e;exact h
 | bl b=>cases e;exact h
 | int i=>cases e;exact h
 | str x=>cases e;exact h
 | _=>cases e
theorem lG{w:V}(e:scD d=some w):fR w=true:=by
 cases d with
 | non=>cases e;rfl
 | bl b=>cases e;rfl
 | int i=>cases e;rfl
 | str x=>cases e;rfl
 | _=>cases e
noncomputable def sB(neg:Bool):D->D->Option Rz:=fun a b=>(scD a).bind fun x=>(scD b).bind fun y=>if u3 x y=true then some (.bl (if neg then !decide (x=y) else decide (x=y)),false) else none
theorem vA:RdOp K rEq (sB false):=by
 intro Y H x y d1 d2 z Q lv b1 b2 e q;refine bsO e fun x' e1 e=>?_;refine bsO e fun y' e2 e=>?_;obtain⟨c,e⟩:=aE e;cases e;obtain rfl:=g8 b1 e1;obtain rfl:=g8 b2 e2;exact⟨c,q _ H (Same.refl H) (.bl _)⟩
theorem ro_neS:RdOp K rNe (sB true):=by
 intro Y H x y d1 d2 z Q lv b1 b2 e q;refine bsO e fun x' e1 e=>?_;refine bsO e fun y' e2 e=>?_;obtain⟨c,e⟩:=aE e;cases e;obtain rfl:=g8 b1 e1;obtain rfl:=g8 b2 e2;exact⟨c,q _ H (Same.refl H) (.bl _)⟩
noncomputable def D.isN:D->Bool
 | .non=>true
 | _=>false
theorem vB(h:BA K Y H v d):decide (v=.non)=d.isN:=by
 cases d with
 | non=>rw[show v=V.non from h];rfl
 | bl b=>rw[show v=V.bl b from h];rfl
 | int i=>rw[show v=V.int i from h];rfl
 | str x=>rw[show v=V.str x from h];rfl
 | ty x=>rw[show v=V.ty x from h];rfl
 | tup ds=>obtain⟨a,_,rfl,_⟩:=h;rfl
 | lst ds=>obtain⟨a,_,rfl,_⟩:=h;rfl
 | fl ds=>obtain⟨a,_,rfl,_⟩:=h;rfl
 | dk ds=>obtain⟨a,_,rfl,_⟩:=h;rfl
 | dt ds=>obtain⟨a,_,_,rfl,_⟩:=h;rfl
noncomputable def vC(neg:Bool):D->D->Option Rz
 | a,.non=>some (.bl (if neg then !a.isN else a.isN),false)
 | _,_=>none
theorem qm:RdOp K (fun x y H Q=>y=.non/\Q (.bl (decide (x=.non))) H) (vC false):=by
 intro Y H x y d1 d2 z Q lv b1 b2 e q;cases d2 with
 | non =>
  cases e;refine⟨b2,?_⟩;rw[vB b1];exact q _ H (Same.refl H) (.bl _)
 | _=>cases e
noncomputable def lH:D->D->Option Rz
 | .str a,.str b=>if a.length+b.length<=1000000 then some (.str (a++b),false) else none
 | _,_=>none
theorem ro_addS:RdOp K (fun x y H Q=>∃i j,x=.str i/\y=.str j/\i.length+j.length<=sizeLine/\Q (.str (i++j)) H) lH:=by
 intro Y H x y d1 d2 z Q lv b1 b2 e q;cases d1 with
 | str a =>
  cases d2 with
  | str b =>
   obtain⟨c,e⟩:=aE e;cases e;exact⟨a,b,b1,b2,few c,q _ H (Same.refl H) (.str _)⟩
  | _=>cases e
 | _=>cases e
theorem gH{ds:List D}{p:Addr}(el:El K Y H vs ds)(hp:H p=none):RES K Y H (upd H p (.lst vs)) (.ref p) (.lst ds,true) :=
 ⟨p,rfl,hp,vs,ay,el.away (aY hp _) hp⟩
theorem eJ{ds:List D}{p:Addr}(el:El K Y H vs ds)(hp:H p=none)(lv:∀p,Y p->Lv H p):RES K Y H (upd H p (.tup vs)) (.ref p) (.tup ds,false) :=
 .tup ⟨ay,fun z=>(lv p z).1 hp⟩ el.1 (el.same (aY hp _)).2
noncomputable def qo:D->D->Option Rz
 | .lst a,.lst b=>if a.length+b.length<=1000000 then some (.lst (a++b),true) else none
 | _,_=>none
theorem ro_cat:RdOp K vg qo:=by
 intro Y H x y d1 d2 z Q lv b1 b2 e q;cases d1 with
 | lst a =>
  cases d2 with
  | lst b =>
   obtain⟨c,e⟩:=aE e;cases e;obtain⟨p,xs,rfl,hp,el⟩:=b1;obtain⟨p2,ys,rfl,hp2,el2⟩:=b2;exact⟨p,p2,xs,ys,rfl,rfl,hp,hp2,by rw[el.1,el2.1];exact few c,fun r hr=>q _ _ (aY hr _) (gH (el.app el2) hr)⟩
  | _=>cases e
 | _=>cases e
noncomputable def jX:D->D->Option Rz
 | .tup (x::a),.tup (y::b)=>if a.length+b.length<=999998 then some (.tup ((x::a)++(y::b)),false) else none
 | .tup (x::a),.tup []=>if a.length<=999998 then some (.tup (x::a),false) else none
 | _,_=>none
theorem sC:RdOp K (pR K) jX:=by
 intro Y H x y d1 d2 z Q lv b1 b2 e q;cases d1 with
 | tup a =>
  cases a with
  | nil=>cases e
  | cons a0 a =>
  cases d2 with
  | tup b =>
   obtain⟨p,xs,rfl,hp,el⟩:=b1;obtain⟨p2,ys,rfl,hp2,el2⟩:=b2;have hx:xs≠[]:=fun z=>by have:=el.1;rw[z]at this;cases this
   cases b with
   | nil =>
    obtain⟨c,e⟩:=aE e;cases e;obtain rfl:=el2.unnil;exact⟨p,p2,xs,[],rfl,rfl,hp.sq,hp2.sq,hx,by rw[el.1];exact few (by simp;lia),fun _=>q _ H (Same.refl H) (.tup hp el.1 el.2),fun z=>absurd rfl z⟩
   | cons b0 b =>
    obtain⟨c,e⟩:=aE e;cases e;have hy:ys≠[]:=fun z=>by have:=el2.1;rw[z]at this;cases this
    exact⟨p,p2,xs,ys,rfl,rfl,hp.sq,hp2.sq,hx,by rw[el.1,el2.1];exact few (by simp;lia),fun z=>absurd z hy,fun _ r hr=>q _ _ (aY hr _) (eJ (el.app el2) hr lv)⟩
  | _=>cases e
 | _=>cases e
noncomputable def bC:=orD lF (orD lH (orD qo jX))
noncomputable def qp:D->D->Option Rz
 | .str a,.int n=>if 0<=n/\n<=1000/\a.length<=1000 then some (.str (Txt.mul a n),false) else none
 | _,_=>none
theorem sD:RdOp K (fun x y H Q=>∃(a:Str)(n:Int),x=.str a/\y=.int n/\MulOk a n/\Q (.str (Txt.mul a n)) H) qp:=by
 intro Y H x y d1 d2 z Q lv b1 b2 e q;cases d1 with
 | str a =>
  cases d2 with
  | int n =>
   obtain⟨c,e⟩:=aE e;cases e;exact⟨a,n,b1,b2,mulOk_of c.1 c.2.1 c.2.2,q _ H (Same.refl H) (.str _)⟩
  | _=>cases e
 | _=>cases e
noncomputable def d4:=orD nU qp
noncomputable def wR:D->D->Option Rz
 | .str a,.str b=>some (.bl (decide (a.cps.toList<b.cps.toList)),false)
 | _,_=>none
theorem vD:RdOp K (fun x y H Q=>∃i j,x=.str i/\y=.str j/\Q (.bl (decide (i.cps.toList<j.cps.toList))) H) wR:=by
 intro Y H x y d1 d2 z Q lv b1 b2 e q;cases d1 with
 | str a =>
  cases d2 with
  | str b=>cases e;exact⟨a,b,b1,b2,q _ H (Same.refl H) (.bl _)⟩
  | _=>cases e
 | _=>cases e
noncomputable def bLt:=orD wN wR
noncomputable def vE(neg:Bool):D->D->Option Rz
 | .str a,.str b=>some (.bl (if neg then !(!(Builtin.Str.occurrences b a 0 b.length 1).isEmpty) else !(Builtin.Str.occurrences b a 0 b.length 1).isEmpty),false)
 | _,_=>none
theorem ro_inS:RdOp K (fun x y H Q=>∃i j,x=.str i/\y=.str j/\Q (.bl (!(Builtin.Str.occurrences j i 0 j.length 1).isEmpty)) H) (vE false):=by
 intro Y H x y d1 d2 z Q lv b1 b2 e q;cases d1 with
 | str a =>
  cases d2 with
  | str b=>cases e;exact⟨a,b,b1,b2,q _ H (Same.refl H) (.bl _)⟩
  | _=>cases e
 | _=>cases e
noncomputable def jY:List D->Option (List V)
 | []=>some []
 | d::r=>(scD d).bind fun v=>(jY r).bind fun vs=>some (v::vs)
theorem lJ:∀{ds:List D}{vs ws:List V},El K Y H vs ds->jY ds=some ws->vs=ws/\ws.all fR=true
 | [],vs,ws,el,e=>by cases e;exact⟨el.unnil,rfl⟩
 | d::r,vs,ws,el,e=>by
  refine bsO e fun w e1 e=>?_;refine bsO e fun ws' e2 e=>?_;cases e;obtain⟨v,t,rfl,da,el⟩:=el.uncons;obtain⟨rfl,h⟩:=lJ el e2;have hv:=g8 da.ba e1;subst hv;exact⟨rfl,by rw[Zk,lG e1,h];rfl⟩
noncomputable def D.seq:D->Option (List D)
 | .lst ds=>some ds
 | .tup ds=>some ds
 | .fl ds=>some ds
 | _=>none
theorem mK(h:BA K Y H v d)(e:d.seq=some ds):∃a vs,v=.ref a/\(SqL K H a vs∨SqT K H a vs)/\El K Y H vs ds:=by
 cases d with
 | lst _=>cases e;obtain⟨a,vs,h1,h2,h3⟩:=h;exact⟨a,vs,h1,.inl (.inl (.inl h2)),h3⟩
 | tup _=>cases e;obtain⟨a,vs,h1,h2,h3⟩:=h;exact⟨a,vs,h1,.inr h2.sq,h3⟩
 | fl _=>cases e;obtain⟨a,vs,h1,h2,h3⟩:=h;exact⟨a,vs,h1,.inl h2.sq,h3⟩
 | _=>cases e
noncomputable def vF(neg:Bool):D->D->Option Rz:=fun a b=>(scD a).bind fun x=>(b.seq).bind fun ds=>(jY ds).bind fun ws=>some (.bl (if neg then !inV x ws else inV x ws),false)
theorem vG(neg:Bool):RdOp K (rIn K neg) (vF neg):=by
 intro Y H x y d1 d2 z Q lv b1 b2 e q;refine bsO e fun x' e1 e=>?_;refine bsO e fun ds e2 e=>?_;refine bsO e fun ws e3 e=>?_;cases e;obtain⟨a,vs,rfl,sq,el⟩:=mK b2 e2;obtain rfl:=g8 b1 e1;obtain⟨rfl,h⟩:=lJ el e3;exact⟨a,vs,rfl,sq,lG e1,h,q _ H (Same.refl H) (.bl _)⟩
noncomputable def bIn:=orD (vE false) (vF false)
noncomputable def qr:D->D->Option Rz
 | .lst ds,.int i=>(atI ds i).bind fun d=>some (d,false)
 | .fl ds,.int i=>(atI ds i).bind fun d=>some (d,false)
 | _,_=>none
noncomputable def sE:D->D->Option Rz
 | .tup ds,.int i=>(atI ds i).bind fun d=>some (d,false)
 | _,_=>none
noncomputable def vH:D->D->Option Rz
 | .str z,.int i=>if z.length<=1000000 then(atI z.cps.toList i).bind fun c=>some (.str ⟨#[c]⟩,false) else none
 | _,_=>none
theorem mL{i:Int}(el:El K Y H vs ds)(e:atI ds i=some d):∃v,atI vs i=some v/\DA K Y H v d:=by
 unfold atI at e ⊢;rw[el.1];refine bsO e fun j e1 e2=>?_;obtain⟨v,h1,h2⟩:=el.at e2;exact⟨v,by rw[e1];exact h1,h2⟩
theorem ro_ixL:RdOp K (u9 K) qr:=by
 intro Y H x y d1 d2 z Q lv b1 b2 e q;cases d1 with
 | lst a =>
  cases d2 with
  | int i =>
   refine bsO e fun d e1 e=>?_;cases e;obtain⟨p,xs,rfl,hp,el⟩:=b1;obtain⟨v,h1,h2⟩:=mL el e1;exact⟨p,xs,i,v,rfl,b2,.inl (.inl hp),h1,q v H (Same.refl H) h2⟩
  | _=>cases e
 | fl a =>
  cases d2 with
  | int i =>
   refine bsO e fun d e1 e=>?_;cases e;obtain⟨p,xs,rfl,hp,el⟩:=b1;obtain⟨v,h1,h2⟩:=mL el e1;exact⟨p,xs,i,v,rfl,b2,hp.sq,h1,q v H (Same.refl H) h2⟩
  | _=>cases e
 | _=>cases e
theorem ro_ixT:RdOp K (va K) sE:=by
 intro Y H x y d1 d2 z Q lv b1 b2 e q;cases d1 with
 | tup a =>
  cases d2 with
  | int i =>
   refine bsO e fun d e1 e=>?_;cases e;obtain⟨p,xs,rfl,hp,el⟩:=b1;obtain⟨v,h1,h2⟩:=mL el e1;exact⟨p,xs,i,v,rfl,b2,hp.sq,h1,q v H (Same.refl H) h2⟩
  | _=>cases e
 | _=>cases e
theorem vI:RdOp K vb vH:=by
 intro Y H x y d1 d2 z Q lv b1 b2 e q;cases d1 with
 | str a =>
  cases d2 with
  | int i =>
   obtain⟨c,e⟩:=aE e;refine bsO e fun ch e1 e=>?_;cases e;exact⟨a,i,ch,b1,b2,few c,e1,q _ H (Same.refl H) (.str _)⟩
  | _=>cases e
 | _=>cases e
noncomputable def bIx:=orD qr (orD sE vH)
theorem aN:RdOp K (rIx K) bIx:=ro_ixL.or (ro_ixT.or vI)
noncomputable abbrev FO:=En->Option (Option Int×En)
noncomputable def RdO(K:PySem.W.Frag)(t:TO)(f:FO):Prop:=∀(st:En)(σ:St)(H:Hp)(O Z:AS)(Q:Option Int->Hp->Prop),ER K st σ H O Z->∀c st',f st=some (c,st') ->
 (∀H' O',Ext O H O' H'->Kp st st'->ER K st' σ H' O' Z->Q c H')->t σ H Q
noncomputable def oNo:FO:=fun st=>some (none,st)
theorem cQ:RdO K nI oNo:=by
 intro st σ H O Z Q E c st' e q;cases e;exact q H O (Ext.refl _ _) (Kp.refl _) E
noncomputable def asInt(st:En)(r:Rs):Option Int:=match cont st r with
 | some (.int i)=>some i
 | _=>none
noncomputable def aZ(fe:FE):FO:=fun st=>(fe st).bind fun x=>(asInt x.2 x.1).bind fun i=>some (some i,x.2)
set_option tactic.hygienic true in
theorem aF{te:TE}{fe:FE}(h:RdE K te fe):RdO K (uc te) (aZ fe):=by
 intro st σ H O Z Q E c st' e q;refine bsP e fun r st1 e1 e=>?_;refine bsO e fun i e2 e=>?_;cases e;refine h st σ H O Z _ E r _ e1 fun v H1 O1 x1 k1 E1 rv w=>?_;have ev:v=.int i:=by
  unfold asInt at e2;split at e2
  ·rename_i j ej
   cases e2;exact rv.ba E1 ej
  ·cases e2
 exact⟨i,ev,q H1 O1 x1 k1 E1⟩
noncomputable def RdSl(K:PySem.W.Frag)(r:V->Option Int->Option Int->Hp->VK->Prop)(b:D->Option Int->Option Int->Option Rz):Prop:=∀(Y:AS)(H:Hp)(x:V)(lo hi:Option Int)(d1:D)(z:Rz)(Q:VK),(∀p,Y p->Lv H p)->BA K Y H x d1->b d1 lo hi=some z ->
 (∀v H',Same H H'->RES K Y H H' v z->Q v H')->r x lo hi H Q
noncomputable def fSl(b:D->Option Int->Option Int->Option Rz)(fe:FE)(fl fh:FO):FE:=fun st=>(fe st).bind fun x=>(fl x.2).bind fun l=>(fh l.2).bind fun u=>(cont u.2 x.1).bind fun d=>(b d l.1 u.1).bind fun z=>some (mk z,u.2)
theorem bg{r:V->Option Int->Option Int->Hp->VK->Prop}{b:D->Option Int->Option Int->Option Rz}{te:TE}{fe:FE}{tl th:TO}{fl fh:FO}(hr:RdSl K r b)(he:RdE K te fe)(hl:RdO K tl fl)(hh:RdO K th fh):RdE K (tSl r te tl th) (fSl b fe fl fh):=by
 intro st σ H O Z Q E r' st' h q;refine bsP h fun r1 st1 e1 h=>?_;refine bsP h fun lo st2 e2 h=>?_;refine bsP h fun hi st3 e3 h=>?_;refine bsO h fun d1 e4 h=>?_;refine bsO h fun z e5 h=>?_;cases h;refine he st σ H O Z _ E r1 st1 e1 fun v1 H1 O1 x1 k1 E1 rv1 w1=>?_;refine hl st1 σ H1 O1 Z _ E1 lo st2 e2 fun H2 O2 x2 k2 E2=>?_;refine hh st2 σ H2 O2 Z _ E2 hi _ e3 fun H3 O3 x3 k3 E3=>?_;have b1:=(rv1.nf.ext (x2.trans x3) (k2.trans k3)).ba E3 (by rw[cW];exact e4)
 refine hr (U O3 Z) H3 v1 lo hi d1 z _ E3.liv b1 e5 fun v H4 s hres=>?_;obtain⟨E4,rv4⟩:=hres.rv E3 s;have xx:=(x1.trans x2).trans x3;exact q v H4 O3 (xx.trans (Same.ext s)) ((k1.trans k2).trans k3) E4 rv4 (hres.fsh.back xx)
noncomputable def cutD(xs:List D)(lo hi:Option Int):List D:=(xs.drop (HT.sIx xs.length 0 lo)).take (HT.sIx xs.length xs.length hi-HT.sIx xs.length 0 lo)
theorem El.cut(el:El K Y H vs ds)(lo hi:Option Int):El K Y H (ln vs lo hi) (cutD ds lo hi):=by
 unfold ln cutD;rw[el.1];exact(el.drop _).take _
noncomputable def orS(b b':D->Option Int->Option Int->Option Rz):D->Option Int->Option Int->Option Rz:=fun x l h=>match b x l h with
 | some z=>some z
 | none=>b' x l h
set_option tactic.hygienic true in
theorem RdSl.or{r r':V->Option Int->Option Int->Hp->VK->Prop}{b b':D->Option Int->Option Int->Option Rz}(h:RdSl K r b)(h':RdSl K r' b'):RdSl K (fun x lo hi H Q=>r x lo hi H Q∨r' x lo hi H Q) (orS b b'):=by
 intro Y H x lo hi d1 z Q lv b1 e q;unfold orS at e;split at e
 ·rename_i z' ez
  cases e;exact .inl (h Y H x lo hi d1 z Q lv b1 ez q)
 ·exact .inr (h' Y H x lo hi d1 z Q lv b1 e q)
noncomputable def sF:D->Option Int->Option Int->Option Rz
 | .lst ds,lo,hi=>some (.lst (cutD ds lo hi),true)
 | .fl ds,lo,hi=>some (.lst (cutD ds lo hi),true)
 | _,_,_=>none
theorem wS:RdSl K (vd K) sF:=by
 intro Y H x lo hi d1 z Q lv b1 e q;cases d1 with
 | lst a =>
  cases e;obtain⟨p,xs,rfl,hp,el⟩:=b1;exact⟨p,xs,rfl,.inl (.inl hp),fun r hr=>q _ _ (aY hr _) (gH (el.cut lo hi) hr)⟩
 | fl a =>
  cases e;obtain⟨p,xs,rfl,hp,el⟩:=b1;exact⟨p,xs,rfl,hp.sq,fun r hr=>q _ _ (aY hr _) (gH (el.cut lo hi) hr)⟩
 | _=>cases e
noncomputable def kF:D->Option Int->Option Int->Option Rz
 | .tup ds,lo,hi=>if HT.sIx ds.length 0 lo=0/\HT.sIx ds.length ds.length hi=ds.length then none else some (.tup (cutD ds lo hi),false)
 | _,_,_=>none
theorem wT:RdSl K (u7 K) kF:=by
 intro Y H x lo hi d1 z Q lv b1 e q;cases d1 with
 | tup a =>
  by_cases c:HT.sIx a.length 0 lo=0/\HT.sIx a.length a.length hi=a.length
  ·simp only[kF,if_pos c]at e;cases e
  ·simp only[kF,if_neg c]at e;cases e;obtain⟨p,xs,rfl,hp,el⟩:=b1;exact⟨p,xs,rfl,hp.sq,by rw[el.1];exact c,fun r hr=>q _ _ (aY hr _) (eJ (el.cut lo hi) hr lv)⟩
 | _=>cases e
noncomputable def sG:D->Option Int->Option Int->Option Rz
 | .str z,lo,hi=>if z.length<=1000000 then some (.str (Txt.slice z lo hi),false) else none
 | _,_,_=>none
theorem wU:RdSl K (fun x lo hi H Q=>∃z:Str,x=.str z/\z.length<=sizeLine/\Q (.str (Txt.slice z lo hi)) H) sG:=by
 intro Y H x lo hi d1 z Q lv b1 e q;cases d1 with
 | str a =>
  obtain⟨c,e⟩:=aE e;cases e;exact⟨a,b1,few c,q _ H (Same.refl H) (.str _)⟩
 | _=>cases e
noncomputable def bSl:=orS sF (orS kF sG)
noncomputable def uq:List D->Option Rz
 | [d]=>(d.seq).bind fun ds=>some (.int ds.length,false)
 | _=>none
theorem rc_lenQ:RdCB K (fun xs H Q=>∃p ys,xs=[.ref p]/\(SqL K H p ys∨SqT K H p ys)/\Q (.int ys.length) H) uq:=by
 intro Y H xs ds z Q lv bs e q;cases bs with
 | nil=>cases e
 | cons b1 bs =>
  cases bs with
  | cons _ _=>cases e
  | nil =>
   refine bsO e fun es e1 e=>?_;cases e;obtain⟨a,vs,rfl,sq,el⟩:=mK b1 e1;refine⟨a,vs,rfl,sq,?_⟩;rw[el.1];exact q _ H (Same.refl H) (.int _)
noncomputable def ur:List D->Option Rz
 | [.str z]=>if z.length<=1000000 then some (.int z.length,false) else none
 | _=>none
theorem sH:RdCB K (fun xs H Q=>∃z:Str,xs=[.str z]/\z.length<=sizeLine/\Q (.int z.length) H) ur:=by
 intro Y H xs ds z Q lv bs e q;cases bs with
 | nil=>cases e
 | @cons v vs d ds b1 bs =>
  cases bs with
  | cons _ _=>cases d<;>cases e
  | nil =>
   cases d with
   | str a =>
    obtain⟨c,e⟩:=aE e;cases e;exact⟨a,by rw[show v=V.str a from b1],few c,q _ H (Same.refl H) (.int _)⟩
   | _=>cases e
noncomputable def gI:=orC uq ur
noncomputable def ut:List D->Option Rz
 | [d]=>(d.seq).bind fun ds=>some (.lst ds,true)
 | _=>none
theorem rc_list:RdCB K (fun xs H Q=>∃p ys,xs=[.ref p]/\(SqL K H p ys∨SqT K H p ys)/\∀l,H l=none->Q (.ref l) (upd H l (.lst ys))) ut:=by
 intro Y H xs ds z Q lv bs e q;cases bs with
 | nil=>cases e
 | cons b1 bs =>
  cases bs with
  | cons _ _=>cases e
  | nil =>
   refine bsO e fun es e1 e=>?_;cases e;obtain⟨a,vs,rfl,sq,el⟩:=mK b1 e1;exact⟨a,vs,rfl,sq,fun r hr=>q _ _ (aY hr _) (gH el hr)⟩
noncomputable def qt:List D->Option Rz
 | [.lst ds]=>some (.tup ds,false)
 | [.fl ds]=>some (.tup ds,false)
 | [.tup ds]=>some (.tup ds,false)
 | _=>none
theorem rc_tuple:RdCB K (fun xs H Q=>∃p ys,xs=[.ref p]/\((SqL K H p ys/\∀l,H l=none->Q (.ref l) (upd H l (.tup ys)))∨(SqT K H p ys/\Q (.ref p) H))) qt:=by
 intro Y H xs ds z Q lv bs e q;cases bs with
 | nil=>cases e
 | @cons v vs d ds b1 bs =>
  cases bs with
  | cons _ _=>cases d<;>cases e
  | nil =>
   cases d with
   | lst a =>
    cases e;obtain⟨p,xs,rfl,hp,el⟩:=b1;exact⟨p,xs,rfl,.inl ⟨.inl (.inl hp),fun r hr=>q _ _ (aY hr _) (eJ el hr lv)⟩⟩
   | fl a =>
    cases e;obtain⟨p,xs,rfl,hp,el⟩:=b1;exact⟨p,xs,rfl,.inl ⟨hp.sq,fun r hr=>q _ _ (aY hr _) (eJ el hr lv)⟩⟩
   | tup a =>
    cases e;obtain⟨p,xs,rfl,hp,el⟩:=b1;exact⟨p,xs,rfl,.inr ⟨hp.sq,q _ H (Same.refl H) (.tup hp el.1 el.2)⟩⟩
   | _=>cases e
noncomputable def jZ:List D->Option (List Bool)
 | []=>some []
 | .bl b::r=>(jZ r).bind fun bs=>some (b::bs)
 | _=>none
theorem lK:∀{ds:List D}{vs:List V}{bs:List Bool},El K Y H vs ds->jZ ds=some bs->vs=bs.map V.bl
 | [],vs,bs,el,e=>by cases e;exact el.unnil
 | d::r,vs,bs,el,e=>by
  obtain⟨v,t,rfl,da,el2⟩:=el.uncons;cases d with
  | bl b =>
   refine bsO e fun bs' e1 e=>?_;cases e;have h:=lK el2 e1;rw[h,show v=V.bl b from da.ba];rfl
  | _=>cases e
noncomputable def vJ:List D->Option Rz
 | [.lst ds]=>(jZ ds).bind fun bs=>some (.bl (bs.all id),false)
 | _=>none
theorem vK:RdCB K (fun xs H Q=>∃(p:Addr)(bs:List Bool),xs=[.ref p]/\SqL K H p (bs.map V.bl)/\Q (.bl (bs.all id)) H) vJ:=by
 intro Y H xs ds z Q lv bs e q;cases bs with
 | nil=>cases e
 | @cons v vs d ds b1 bs =>
  cases bs with
  | cons _ _=>cases d<;>cases e
  | nil =>
   cases d with
   | lst a =>
    refine bsO e fun bs e1 e=>?_;cases e;obtain⟨p,xs,rfl,hp,el⟩:=b1;obtain rfl:=lK el e1;exact⟨p,bs,rfl,.inl (.inl hp),q _ H (Same.refl H) (.bl _)⟩
   | _=>cases e
noncomputable def sI(K:PySem.W.Frag)(r:V->List V->Hp->VK->Prop)(b:D->List D->Option Rz):Prop:=∀(Y:AS)(H:Hp)(x:V)(xs:List V)(d:D)(ds:List D)(z:Rz)(Q:VK),(∀p,Y p->Lv H p)->BA K Y H x d->BAs K Y H xs ds->b d ds=some z ->
 (∀v H',Same H H'->RES K Y H H' v z->Q v H')->r x xs H Q
noncomputable def vL(T:String):D->Bool
 | .str _=>decide (T="str")
 | .lst _=>decide (T="list")
 | .dk _=>decide (T="dict")
 | .dt _=>decide (T="dict")
 | _=>false
theorem wV{T:String}(h:BA K Y H v d)(e:vL T d=true):tyV K T v H:=by
 cases d with
 | str x =>
  have e':T="str":=of_decide_eq_true e;rw[show v=V.str x from h];exact e'
 | lst x=>obtain⟨a,vs,rfl,h1,_⟩:=h;exact .inl ⟨of_decide_eq_true e,vs,.inl (.inl h1)⟩
 | dk x=>obtain⟨a,vs,rfl,h1,_⟩:=h;exact .inr (.inr (.inl ⟨of_decide_eq_true e,.inl ⟨vs,h1⟩⟩))
 | dt x=>obtain⟨a,ep,vs,rfl,_,h1,_⟩:=h;exact .inr (.inr (.inl ⟨of_decide_eq_true e,.inr ⟨ep,vs,h1⟩⟩))
 | _=>cases e
noncomputable def fBM(T:String)(b:D->List D->Option Rz)(fo:FE)(fa:FA):FE:=fun st=>(fo st).bind fun x=>(cont x.2 x.1).bind fun d0=>if vL T d0=true then(fa x.2).bind fun y=>(cont y.2 x.1).bind fun d=>(ce y.2 y.1).bind fun ds=>(b d ds).bind fun z=>some (mk z,y.2) else none
theorem qu{T:String}{r:V->List V->Hp->VK->Prop}{b:D->List D->Option Rz}{to:TE}{fo:FE}{ta:TA}{fa:FA}(hr:sI K r b)(ho:RdE K to fo)(ha:RdA K ta fa):RdE K (tBM K T r to ta) (fBM T b fo fa):=by
 intro st σ H O Z Q E r' st' h q;refine bsP h fun r1 st1 e1 h=>?_;refine bsO h fun d0 e2 h=>?_;obtain⟨c,h⟩:=aE h;refine bsP h fun rs st2 e3 h=>?_;refine bsO h fun d e4 h=>?_;refine bsO h fun ds e5 h=>?_;refine bsO h fun z e6 h=>?_;cases h;refine ho st σ H O Z _ E r1 st1 e1 fun v1 H1 O1 x1 k1 E1 rv1 w1=>⟨wV (rv1.ba E1 e2) c,?_⟩;refine ha st1 σ H1 O1 Z _ E1 rs _ e3 fun vs H2 O2 x2 k2 E2 rvs=>?_;have b1:=(rv1.nf.ext x2 k2).ba E2 (by rw[cW];exact e4)
 refine hr (U O2 Z) H2 v1 vs d ds z _ E2.liv b1 (rvs.bas E2 e5) e6 fun v H3 s hres=>?_;obtain⟨E3,rv3⟩:=hres.rv E2 s;exact q v H3 O2 ((x1.trans x2).trans (Same.ext s)) (k1.trans k2) E3 rv3 (hres.fsh.back (x1.trans x2))
noncomputable def eK:List D->Option (List Str)
 | []=>some []
 | .str x::r=>(eK r).bind fun xs=>some (x::xs)
 | _=>none
theorem g9:∀{ds:List D}{vs:List V}{xs:List Str},El K Y H vs ds->eK ds=some xs->vs=xs.map V.str
 | [],vs,xs,el,e=>by cases e;exact el.unnil
 | d::r,vs,xs,el,e=>by
  obtain⟨v,t,rfl,da,el2⟩:=el.uncons;cases d with
  | str b =>
   refine bsO e fun xs' e1 e=>?_;cases e;have h:=g9 el2 e1;rw[h,show v=V.str b from da.ba];rfl
  | _=>cases e
noncomputable def qv:D->List D->Option Rz
 | .str sep,[.lst ds]=>(eK ds).bind fun ys=>if (ys.map (·.length)).sum+ys.length*sep.length<=16777216 then some (.str (Txt.join sep ys),false) else none
 | _,_=>none
theorem sJ:sI K (fun x vs H Q=>∃(sep:Str)(p:Addr)(ys:List Str),x=.str sep/\vs=[.ref p]/\SqL K H p (ys.map V.str)/\(ys.map (·.length)).sum+ys.length*sep.length<=16777216/\Q (.str (Txt.join sep ys)) H) qv:=by
 intro Y H x xs d ds z Q lv b1 bs e q;cases d with
 | str sep =>
  cases bs with
  | nil=>cases e
  | @cons v vs d ds b2 bs =>
   cases bs with
   | cons _ _=>cases d<;>cases e
   | nil =>
    cases d with
    | lst es =>
     refine bsO e fun ys e1 e=>?_;obtain⟨c,e⟩:=aE e;cases e;obtain⟨p,ws,rfl,hp,el⟩:=b2;obtain rfl:=g9 el e1;exact⟨sep,p,ys,b1,rfl,.inl (.inl hp),c,q _ H (Same.refl H) (.str _)⟩
    | _=>cases e
 | _=>cases e
noncomputable def nV:D->List D->Option Rz
 | .str a,[.str b]=>some (.bl (Txt.startswith a b),false)
 | _,_=>none
theorem o7:sI K (fun x vs H Q=>∃(a b:Str),x=.str a/\vs=[.str b]/\Q (.bl (Txt.startswith a b)) H) nV:=by
 intro Y H x xs d ds z Q lv b1 bs e q;cases d with
 | str a =>
  cases bs with
  | nil=>cases e
  | @cons v vs d ds b2 bs =>
   cases bs with
   | cons _ _=>cases d<;>cases e
   | nil =>
    cases d with
    | str b=>cases e;exact⟨a,b,b1,by rw[show v=V.str b from b2],q _ H (Same.refl H) (.bl _)⟩
    | _=>cases e
 | _=>cases e
noncomputable def isL:D->Bool
 | .lst _=>true
 | _=>false
theorem tyL{p:Addr}{x:D}(h:OA K Y H p x)(e:isL x=true):tyV K "list" (.ref p) H:=by
 cases x with
 | lst ds=>obtain⟨vs,h1,_⟩:=h;exact .inl ⟨rfl,vs,.inl (.inl h1)⟩
 | _=>cases e
theorem El.upd{p:Addr}{o:HO}(h:El K Y H vs ds)(hp:Y p):El K Y (L2.upd H p o) vs ds:=h.go (fun b u e n=>by
 have hb:b≠p:=fun z=>n (by rw[z];exact hp)
 rw[ao hb];exact e) fun b z=>.inl z
theorem DA.upd{p:Addr}{o:HO}(h:DA K Y H v d)(hp:Y p):DA K Y (L2.upd H p o) v d:=h.go (fun b u e n=>by
 have hb:b≠p:=fun z=>n (by rw[z];exact hp)
 rw[ao hb];exact e) fun b z=>.inl z
noncomputable def fE:D->List D->Option (D×D)
 | .lst xs,[y]=>if xs.length<1000000 then some (.non,.lst (xs++[y])) else none
 | _,_=>none
theorem hJ:RdM K "list" nL isL fE:=⟨fun Y H p x h e=>tyL h e,fun Y H p x vs ds y x' Q hp ho el e q=>by
 cases x with
 | lst xs =>
  cases ds with
  | nil=>cases e
  | cons d ds =>
   cases ds with
   | cons _ _=>cases e
   | nil =>
    obtain⟨c,e⟩:=aE e;cases e;obtain⟨ws,h1,h2⟩:=ho;obtain⟨v,r,rfl,da,el⟩:=el.uncons;obtain rfl:=el.unnil;exact⟨p,ws,v,rfl,rfl,h1,by rw[h2.1];exact few (by lia),q .non _ .non ⟨_,ay,(h2.app (El.one da)).upd hp⟩⟩
 | _=>cases e⟩
noncomputable def kG:D->List D->Option (D×D)
 | .lst xs,[.int i]=>if -(2 ^ 63)<=i/\i<2 ^ 63 then(seqIndex? i xs.length).bind fun k=>(xs[k]?).bind fun y=>some (y,.lst (xs.eraseIdx k)) else none
 | _,_=>none
theorem qw:RdM K "list" pU isL kG:=⟨fun Y H p x h e=>tyL h e,fun Y H p x vs ds y x' Q hp ho el e q=>by
 cases x with
 | lst xs =>
  cases ds with
  | nil=>cases e
  | cons d ds =>
   cases d with
   | int i =>
    cases ds with
    | cons _ _=>cases e
    | nil =>
     obtain⟨c,e⟩:=aE e;refine bsO e fun k e1 e=>?_;refine bsO e fun y' e2 e=>?_;cases e;obtain⟨ws,h1,h2⟩:=ho;obtain⟨v,r,rfl,da,el⟩:=el.uncons;obtain rfl:=el.unnil;obtain rfl:=(show v=V.int i from da.ba);obtain⟨u,g1,g2⟩:=h2.at e2;exact⟨p,ws,i,k,u,rfl,rfl,h1,c.1,c.2,by rw[h2.1];exact e1,g1,q u _ (g2.upd hp) ⟨_,ay,(h2.erase k).upd hp⟩⟩
   | _=>cases ds<;>cases e
 | _=>cases e⟩
noncomputable def gJ:D->D->D->Option D
 | .lst xs,.int k,v=>(ixN xs.length k).bind fun j=>some (.lst (xs.set j v))
 | _,_,_=>none
theorem cu:um K ud gJ:=by
 intro Y H p x k v dk dv x' Q hp ho bk da e q;cases x with
 | lst xs =>
  cases dk with
  | int i =>
   refine bsO e fun j e1 e=>?_;cases e;obtain⟨ws,h1,h2⟩:=ho;exact⟨p,ws,i,j,rfl,bk,h1,by rw[h2.1];exact e1,q _ ⟨_,ay,(h2.set da j).upd hp⟩⟩
  | _=>cases e
 | _=>cases e
noncomputable def qx(xs:List Str):FA:=fun st=>some (xs.map fun x=>.d (.str x),st)
theorem nW{xs:List Str}:RdA K (ug xs) (qx xs):=by
 intro st σ H O Z Q E rs st' e q;cases e;refine q _ H O (Ext.refl _ _) (Kp.refl _) E ?_;clear q;induction xs with
 | nil=>exact .nil
 | cons x r ih=>exact .cons (show DA K _ H (.str x) (.str x) from .str x) ih
end
end VF
namespace VF
open PySem PySem.Spec PyProof.Rows L2
section
variable {X:Cx}{K:PySem.W.Frag}{Y:AS}{H:Hp}{v:V}{d:D}{vs:List V}{ds:List D}
noncomputable def qy(K:PySem.W.Frag):R2:=fun x y H Q=>(rI0 fun i j=>.int (i+j)) x y H Q∨((∃i j,x=.str i/\y=.str j/\i.length+j.length<=sizeLine/\Q (.str (i++j)) H)∨(vg x y H Q∨pR K x y H Q))
theorem aG(h:X.K=K):OpR X (binaryOp .Add) (qy K):=op_add.or (op_add_str.or (op_cat.or (h ▸ r9)))
theorem ro_addA:RdOp K (qy K) bC:=ro_addI.or (ro_addS.or (ro_cat.or sC))
noncomputable def uu:R2:=fun x y H Q=>(rI CMul fun i j=>.int (i*j)) x y H Q∨(∃(a:Str)(n:Int),x=.str a/\y=.int n/\MulOk a n/\Q (.str (Txt.mul a n)) H)
theorem cZ:OpR X (binaryOp .Mult) uu:=op_mul.or mD
theorem db:RdOp K uu d4:=ro_mulI.or sD
noncomputable def wW:R2:=fun x y H Q=>(rI0 fun i j=>.bl (decide (i<j))) x y H Q∨(∃i j,x=.str i/\y=.str j/\Q (.bl (decide (i.cps.toList<j.cps.toList))) H)
theorem eN:OpR X (compareOp .Lt) wW:=op_lt.or oM
theorem eO:RdOp K wW bLt:=ro_ltI.or vD
noncomputable def wX(K:PySem.W.Frag):R2:=fun x y H Q=>(∃i j,x=.str i/\y=.str j/\Q (.bl (!(Builtin.Str.occurrences j i 0 j.length 1).isEmpty)) H)∨rIn K false x y H Q
theorem vM(h:X.K=K):OpR X (compareOp .In) (wX K):=op_in_str.or (h ▸ oP)
theorem vN:RdOp K (wX K) bIn:=ro_inS.or (vG false)
noncomputable def bEq:=sB false
theorem b7(_:X.K=K)(_:X.A.units+64<cLine):OpR X (compareOp .Eq) rEq:=wB
theorem b8:RdOp K rEq bEq:=vA
noncomputable def wY:D->D->Option Rz
 | .lst xs,.lst []=>some (.bl (!xs.isEmpty),false)
 | _,_=>none
noncomputable def wZ(K:PySem.W.Frag):R2:=fun x y H Q=>∃(a b:Addr)(xs:List V),x=.ref a/\y=.ref b/\SqL K H a xs/\SqL K H b []/\Q (.bl (!xs.isEmpty)) H
theorem vO:RdOp K (wZ K) wY:=by
 intro Y H x y d1 d2 z Q lv b1 b2 e q;cases d1 with
 | lst xs =>
  cases d2 with
  | lst ys =>
   cases ys with
   | nil =>
    cases e;obtain⟨p,ws,rfl,hp,el⟩:=b1;obtain⟨p2,zs,rfl,hp2,el2⟩:=b2;obtain rfl:=el2.unnil;refine⟨p,p2,ws,rfl,rfl,.inl (.inl hp),.inl (.inl hp2),?_⟩;have e:ws.isEmpty=xs.isEmpty:=by
     cases ws with
     | nil=>cases xs with
      | nil=>rfl
      | cons _ _=>cases el.1
     | cons _ _=>cases xs with
      | nil=>cases el.1
      | cons _ _=>rfl
    rw[e];exact q _ H (Same.refl H) (.bl _)
   | cons _ _=>cases e
  | _=>cases e
 | _=>cases e
noncomputable def bNe:=orD (sB true) wY
noncomputable def w5(K:PySem.W.Frag):R2:=fun x y H Q=>rNe x y H Q∨wZ K x y H Q
theorem kH(h:X.K=K)(hu:X.A.units+64<cLine):OpR X (compareOp .NotEq) (w5 K):=op_ne.or (by subst h;exact vq (by lia))
theorem kI:RdOp K (w5 K) bNe:=ro_neS.or vO
noncomputable def vP(K:PySem.W.Frag):V->Option Int->Option Int->Hp->VK->Prop:=fun x lo hi H Q=>vd K x lo hi H Q∨(u7 K x lo hi H Q∨(∃z:Str,x=.str z/\z.length<=sizeLine/\Q (.str (Txt.slice z lo hi)) H))
theorem mM(h:X.K=K):SlR X (vP K):=SlR.or (h ▸ se) (SlR.or (h ▸ u8) vn)
theorem kJ:RdSl K (vP K) bSl:=RdSl.or wS (RdSl.or wT wU)
noncomputable def uv(K:PySem.W.Frag):List V->Hp->VK->Prop:=fun xs H Q=>(∃p ys,xs=[.ref p]/\(SqL K H p ys∨SqT K H p ys)/\Q (.int ys.length) H)∨(∃z:Str,xs=[.str z]/\z.length<=sizeLine/\Q (.int z.length) H)
theorem cb(h:X.K=K):CallR X (.builtin "len") (uv K):=CallR.or (h ▸ kv) kx
theorem eP:RdCB K (uv K) gI:=rc_lenQ.or sH
theorem qz(z:Str):El K Y H (sgn z) (lC z):=by
 refine⟨by simp[sgn,lC],fun i v d h1 h2=>?_⟩
 unfold sgn at h1;unfold lC at h2;rw[Qc]at h1 h2;obtain⟨c,e1,rfl⟩:=We.mp h1;rw[e1]at h2;obtain rfl:=Option.some.inj h2;exact .str _
noncomputable def qA:List D->Option Rz
 | [.str z]=>if z.cps.size<=1000000 then some (.lst (lC z),true) else none
 | _=>none
noncomputable def qB:List V->Hp->VK->Prop:=fun xs H Q=>∃z:Str,xs=[.str z]/\z.cps.size<=sizeLine/\∀l,H l=none->Q (.ref l) (upd H l (.lst (sgn z)))
theorem qC:RdCB K qB qA:=by
 intro Y H xs ds z Q lv bs e q;cases bs with
 | nil=>cases e
 | @cons v vs d ds b1 bs =>
  cases bs with
  | cons _ _=>cases d<;>cases e
  | nil =>
   cases d with
   | str a =>
    obtain⟨c,e⟩:=aE e;cases e;exact⟨a,by rw[show v=V.str a from b1],few c,fun r hr=>q _ _ (aY hr _) (gH (qz a) hr)⟩
   | _=>cases e
noncomputable def nX:List D->Option Rz
 | [.str z]=>if z.cps.size<=1000000 then some (.tup (lC z),false) else none
 | _=>none
noncomputable def nY:List V->Hp->VK->Prop:=fun xs H Q=>∃z:Str,xs=[.str z]/\z.cps.size<=sizeLine/\∀l,H l=none->Q (.ref l) (upd H l (.tup (sgn z)))
theorem o8:RdCB K nY nX:=by
 intro Y H xs ds z Q lv bs e q;cases bs with
 | nil=>cases e
 | @cons v vs d ds b1 bs =>
  cases bs with
  | cons _ _=>cases d<;>cases e
  | nil =>
   cases d with
   | str a =>
    obtain⟨c,e⟩:=aE e;cases e;exact⟨a,by rw[show v=V.str a from b1],few c,fun r hr=>q _ _ (aY hr _) (eJ (qz a) hr lv)⟩
   | _=>cases e
noncomputable def kK:=orC ut qA
noncomputable def gK:=orC qt nX
noncomputable def qD(K:PySem.W.Frag):List V->Hp->VK->Prop:=fun xs H Q=>(∃p ys,xs=[.ref p]/\(SqL K H p ys∨SqT K H p ys)/\∀l,H l=none->Q (.ref l) (upd H l (.lst ys)))∨qB xs H Q
noncomputable def nZ(K:PySem.W.Frag):List V->Hp->VK->Prop:=fun xs H Q=>(∃p ys,xs=[.ref p]/\((SqL K H p ys/\∀l,H l=none->Q (.ref l) (upd H l (.tup ys)))∨(SqT K H p ys/\Q (.ref p) H)))∨nY xs H Q
theorem gd(h:X.K=K)(hc:X.calm=true):CallR X (.type "list") (qD K):=CallR.or (h ▸ ky) (i5 hc)
theorem de(h:X.K=K)(hc:X.calm=true):CallR X (.type "tuple") (nZ K):=CallR.or (h ▸ jB) (iD hc)
theorem jc:RdCB K (qD K) kK:=rc_list.or qC
theorem fF:RdCB K (nZ K) gK:=rc_tuple.or o8
noncomputable def tyN:D->String
 | .non=>"NoneType"
 | .bl _=>"bool"
 | .int _=>"int"
 | .str _=>"str"
 | .tup _=>"tuple"
 | .lst _=>"list"
 | .fl _=>"list"
 | .dk _=>"dict"
 | .dt _=>"dict"
 | .ty _=>"type"
noncomputable def qE(n T:String):Bool:=n == T||(n == "bool"&&T == "int")
theorem vQ:∀n∈["NoneType","bool","int","str","tuple","list","dict"],∀T∈["bool","int","str","tuple","list","dict"],
  (if (Value.type n == Value.type T)=true then some true else if PySem.W.kitMeta T=true then(fastBuiltinMro n).map (·.contains (Value.type T)) else none)=some (qE n T):=by decide +kernel
noncomputable def xO:List D->Option Rz
 | [d,.ty T]=>if (["bool","int","str","tuple","list","dict"].contains T&&tyN d != "type")=true then some (.bl (qE (tyN d) T),false) else none
 | _=>none
noncomputable def bQ:=xO
noncomputable def w6(K:PySem.W.Frag):List V->Hp->VK->Prop:=fun xs H Q=>∃(Y:AS)(x:V)(d:D)(T:String),xs=[x,.ty T]/\BA K Y H x d/\(["bool","int","str","tuple","list","dict"].contains T&&tyN d != "type")=true/\Q (.bl (qE (tyN d) T)) H
theorem bv:RdCB K (w6 K) bQ:=by
 intro Y H xs ds z Q lv bs e q;cases bs with
 | nil=>cases e
 | @cons v vs d ds b1 bs =>
  cases bs with
  | nil=>cases e
  | @cons v2 vs2 d2 ds2 b2 bs =>
   cases bs with
   | cons _ _=>cases d2<;>cases e
   | nil =>
    cases d2 with
    | ty T =>
     obtain⟨c,e⟩:=aE e;cases e;exact⟨Y,v,d,T,by rw[show v2=V.ty T from b2],b1,c,q _ H (Same.refl H) (.bl _)⟩
    | _=>cases e
theorem aW(h:X.K=K):CallR X (.builtin "isinstance") (w6 K):=by
 subst h;intro pins s σ H xs us Q I rv h;obtain⟨Y,x,d,T,rfl,b1,c,q⟩:=h;obtain⟨u,w',rfl,rx,ry⟩:=vals2 rv;cases (show w'=Value.type T from ry);rw[Vc]at c;have hT:T∈["bool","int","str","tuple","list","dict"]:=List.contains_iff_mem.mp c.1;have fin:∀tk,EP X pins σ Q (.bool (qE (tyN d) T)) { s with toks:=tk }:=fun tk=>⟨.bl _,H,I.tok tk,rfl,q⟩;have ko:∀n∈["NoneType","bool","int","str","tuple","list","dict"],tyN d=n->PySem.W.kitOne X.K (.type n) (.type T)=some (qE (tyN d) T):=fun n hn e=>by
  rw[e];exact vp (vQ n hn T hT)
 cases d with
 | non =>
  obtain rfl:=(show x=V.non from b1);exact cq I rx .non (ko "NoneType" (by decide) rfl) fin
 | bl b =>
  obtain rfl:=(show x=V.bl b from b1);exact cq I rx (.bl b) (ko "bool" (by decide) rfl) fin
 | int i =>
  obtain rfl:=(show x=V.int i from b1);exact cq I rx (.int i) (ko "int" (by decide) rfl) fin
 | str z =>
  obtain rfl:=(show x=V.str z from b1);exact cq I rx (.str z) (ko "str" (by decide) rfl) fin
 | ty n=>exact absurd c.2 (by simp[tyN])
 | lst ds =>
  obtain⟨a,vs,rfl,h1,_⟩:=b1;exact cq I rx (.lst h1) (ko "list" (by decide) rfl) fin
 | fl ds =>
  obtain⟨a,vs,rfl,h1,_⟩:=b1;cases (show u=Value.ref a from rx);obtain⟨its,_,pl,_⟩:=I.list h1.sq;obtain⟨o,ho,hc,_⟩:=pl.isList;exact PySem.W.kia_one PySem.W.kitx_list I.kIn ⟨o,ho,hc⟩ (ko "list" (by decide) rfl) (fun z=>nomatch z) fin
 | tup ds =>
  obtain⟨a,vs,rfl,h1,_⟩:=b1;cases (show u=Value.ref a from rx);obtain⟨its,_,pl,_⟩:=I.tuple h1.sq;obtain⟨o,ho,hc,_⟩:=pl;exact PySem.W.kia_one PySem.W.kitx_tuple I.kIn ⟨o,ho,hc⟩ (ko "tuple" (by decide) rfl) (fun z=>nomatch z) fin
 | dk ds =>
  obtain⟨a,vs,rfl,h1,_⟩:=b1;exact cq I rx (.dK h1) (ko "dict" (by decide) rfl) fin
 | dt ds =>
  obtain⟨a,ep,vs,rfl,_,h1,_⟩:=b1;exact cq I rx (.dT h1) (ko "dict" (by decide) rfl) fin
theorem iE(l:Addr)(its:Array Value)(n:Nat)(b:Addr)(more:Array Value)(m:Nat)(dd:Option Addr)(sl:Array (Option Value))(h0:¬(!its.isEmpty&&Builtin.List.listTooLong (its.size+more.size))=true)(h1:its.size<=sizeLine)(h2:its.size+more.size<=sizeLine+1) :
  Meets (Builtin.«list.extend» ⟨[.ref l,.ref b],[]⟩) (fun _ R s=>s.heap.get? l=some { cls:=.type "list",dict:=none,data:=.seq its n,slots:=#[] }/\s.heap.get? b=some { cls:=.type "tuple",dict:=dd,data:=.seq more m,slots:=sl }/\R (.ok (.ret Value.none)) { s with heap:=s.heap.update l (Obj.mapSeq fun x=>x++more),toks:=s.toks }) :=
 .of_wp fun prog w A R s0 hh=>by
  obtain⟨hp,gg,dp,tks,oo⟩:=s0;obtain⟨hl,hb,hR⟩:=hh;have a1:=AutoSeq1.idx_int;have a2:=AutoSeq1.sub_tuple_tuple;have a3:=AutoSeq1.sub_list_list;have a4:=AutoSeq1.sub_tuple_list;have a5:=AutoSeq1.sub_list_tuple;have fits:(its++more).size<=sizeLine+1:=by
   rw[Array.size_append];exact h2
  wp_walk using (wpAny_updateSeq hl rfl (hz:=h1) (_hz':=fits)),wpAny_loadPart' hl,wpAny_loadPart' hb
  exact⟨_,rfl,hR⟩
noncomputable def uw(K:PySem.W.Frag):V->List V->Hp->VK->Prop:=fun x vs H Q=>∃l b xs zs,x=.ref l/\vs=[.ref b]/\H l=some (.lst xs)/\SqT K H b zs/\xs.length+zs.length<=sizeLine/\Q .non (upd H l (.lst (xs++zs)))
theorem sK(h:X.K=K):MtM X "list.extend" (uw K):=by
 subst h;intro pins s σ H x vs v us Q I rx rv h;obtain⟨l,b,xs,zs,rfl,rfl,hH,hB,hz,q⟩:=h;cases rx;obtain⟨u,rfl,ru⟩:=rv.one;cases ru;obtain⟨z,its,n,r,hl,e⟩:=I.lstM hH;obtain⟨its2,r2,pl,hz2⟩:=I.tuple hB;obtain⟨⟨c2,dd2,d2,sl2⟩,ho2,hc2,n2,hd2⟩:=id pl;obtain rfl:c2=.type "tuple":=hc2;obtain rfl:d2=.seq its2.toArray n2:=hd2;have hl2:=r2.length;have hsz:its.toArray.size+its2.toArray.size<=sizeLine:=by rw[Ya,Ya];lia
 have hlong:¬ (!its.toArray.isEmpty&&Builtin.List.listTooLong (its.toArray.size+its2.toArray.size))=true:=by
  rw[lq hsz,Bool.and_false];exact Qa
 refine call_meets F.slot_list_extend ⟨_,e,rfl⟩ F.entry_list_extend (F.args_list_extend_2 _ _)
  (iE l its.toArray n b its2.toArray n2 dd2 sl2 hlong (by rw[Ya];lia) (by lia)) ⟨e,ho2,?_⟩
 refine⟨.non,_,I.lset (its':=its++its2) hH e (by simp) (r.append r2) ?_,rfl,q⟩
 rw[Wb];lia
noncomputable def ux(K:PySem.W.Frag):V->List V->Hp->VK->Prop:=fun x vs H Q=>nM x vs H Q∨uw K x vs H Q
theorem mN(h:X.K=K)(_:X.calm=true):MtM X "list.extend" (ux K):=by
 intro pins s σ H x vs v us Q I rx rv hh;rcases hh with hh|hh
 ·exact oQ pins s σ H x vs v us Q I rx rv hh
 ·exact sK h pins s σ H x vs v us Q I rx rv hh
noncomputable def iP:D->List D->Option (D×D)
 | .lst xs,[.lst ys]=>if xs.length+ys.length<=1000000 then some (.non,.lst (xs++ys)) else none
 | .lst xs,[.tup ys]=>if xs.length+ys.length<=1000000 then some (.non,.lst (xs++ys)) else none
 | _,_=>none
theorem o9:RdM K "list" (ux K) isL iP:=⟨fun Y H p x h e=>tyL h e,fun Y H p x vs ds y x' Q hp ho el e q=>by
 cases x with
 | lst xs =>
  cases ds with
  | nil=>cases e
  | cons d ds =>
   cases ds with
   | cons _ _=>cases d<;>cases e
   | nil =>
    obtain⟨ws,h1,h2⟩:=ho;obtain⟨v,r,rfl,da,el⟩:=el.uncons;obtain rfl:=el.unnil;cases d with
    | lst ys =>
     obtain⟨c,e⟩:=aE e;cases e;cases da with
     | @lst a us _ g0 g1 g2 g3=>exact .inl ⟨p,a,ws,us,rfl,rfl,h1,g1,by rw[h2.1,g2];exact few c,q .non _ .non ⟨_,ay,(h2.app ⟨g2,g3⟩).upd hp⟩⟩
    | tup ys =>
     obtain⟨c,e⟩:=aE e;cases e;cases da with
     | @tup a us _ g1 g2 g3=>exact .inr ⟨p,a,ws,us,rfl,rfl,h1,g1.sq,by rw[h2.1,g2];exact few c,q .non _ .non ⟨_,ay,(h2.app ⟨g2,g3⟩).upd hp⟩⟩
    | _=>cases e
 | _=>cases e⟩
noncomputable def w9(K:PySem.W.Frag)(tl:TE):TI:=fun σ H R=>nB K tl σ H R∨(uZ K tl σ H R∨vk tl σ H R)
theorem mO{tg l:Expr}{tl:TE}(h:X.K=K)(hl:PE X l tl):PI X tg l (w9 K tl):=by
 subst h;intro pins s σ H R I hh;rcases hh with hh|hh|hh
 ·exact rV hl pins s σ H R I hh
 ·exact u0 hl pins s σ H R I hh
 ·exact vm hl pins s σ H R I hh
noncomputable def fIA(fe:FE):FI:=fun st=>match fIL fe st with
 | some z=>some z
 | none=>match fIT fe st with
  | some z=>some z
  | none=>fIS fe st
set_option tactic.hygienic true in
theorem mP{te:TE}{fe:FE}(h:RdE K te fe):RdI K (w9 K te) (fIA fe):=by
 intro st σ H O Z R E items st' e q;unfold fIA at e;split at e
 ·rename_i z ez
  cases e;exact .inl (sw h st σ H O Z R E items st' ez q)
 ·split at e
  ·rename_i z ez
   cases e;exact .inr (.inl (vr h st σ H O Z R E items st' ez q))
  ·exact .inr (.inr (vv h st σ H O Z R E items st' e q))
end
end VF
namespace VF
open PySem PySem.Spec PyProof.Rows L2
section
theorem nx_slot:Slot "reversed" "__next__" "reversed.__next__":=by
 refine .of (owner:="reversed") (n:="__next__") ?_ ?_ ?_ ?_ ?_ ?_
 ·rw[typeLookup_type,builtinLookup_eq_fast]
  kernel_rfl
 ·decide +kernel
 ·decide +kernel
 ·decide +kernel
 ·first
   | exact .inl (by decide +kernel)
   | exact .inr (by decide +kernel)
 ·rw[isSubtype_type]
  kernel_rfl
theorem n4:Slot "reversed" "__iter__" "reversed.__iter__":=by
 refine .of (owner:="reversed") (n:="__iter__") ?_ ?_ ?_ ?_ ?_ ?_
 ·rw[typeLookup_type,builtinLookup_eq_fast]
  kernel_rfl
 ·decide +kernel
 ·decide +kernel
 ·decide +kernel
 ·first
   | exact .inl (by decide +kernel)
   | exact .inr (by decide +kernel)
 ·rw[isSubtype_type]
  kernel_rfl
theorem lL:entryFor table "reversed.__next__"=some Builtin.«reversed.__next__»:=by
 refine entryFor_of_tree ?_
 kernel_rfl
theorem n5(a:Value):argsOk "reversed.__next__" ⟨[a],[]⟩:=by
 unfold argsOk
 kernel_rfl
theorem sL(a:Value):argsOk "reversed.__iter__" ⟨[a],[]⟩:=by
 unfold argsOk
 kernel_rfl
theorem qF:entryFor table "reversed.__iter__"=some Builtin.«dict_keyiterator.__iter__»:=by
 refine entryFor_alias (id':="dict_keyiterator.__iter__") ?_ ?_ ?_ ?_
 ·kernel_rfl
 ·first
   | rfl
   | decide +kernel
   | (unfold String.splitOn;simp +decide [String.splitOnAux])
 ·decide +kernel
 ·kernel_rfl
variable {prog:Program}{w:World}{A:Around}{E:Value->Shared->Prop}{s:Shared}
noncomputable def IsRv(h:Heap)(it a:Addr)(i:Int):Prop:=∃o,h.get? it=some o/\o.cls=.type "reversed"/\o.data=.fields #[.ref a,rawInt i]
theorem IsRv.ty{it a:Addr}{i:Int}(x:IsRv s.heap it a i):s.TypeIs (.ref it) "reversed":=by
 obtain⟨o,ho,hc,_⟩:=x;exact⟨o,ho,hc⟩
theorem sM{it a:Addr}{i:Nat}{items:Array Value}{x:Value}{Q:Option Value->Shared->Prop}(hit:IsRv s.heap it a (i:Int))(ht:IsTup s.heap a items)(hx:items[i]?=some x)(hz:items.size<=sizeLine)
  (hQ:∀h' t',IsRv h' it a ((i:Int)-1)->Heap.SameBut it s.heap h'->Q (some x) { s with heap:=h',toks:=t' }):wpAny (model prog w) A (pyNext (.ref it)) Q E s:=by
 obtain⟨o,ho,hc,hd⟩:=id hit;have hi:i<items.size:=(Ye.mp hx).1;have hs:=sizeLine_eq;unfold pyNext;refine wpAny_bind (wpAny_attempt (wpAny_callSpecial?_slot (name:=Str.ofString "__next__") hit.ty nx_slot (wpAny_call_entry nx_slot hit.ty lL ?_ (n5 _))));unfold Builtin.«reversed.__next__»;refine wpAny_bind (wpAny_of_eq (a:=(Value.ref it,[])) rfl ?_)
 try dsimp only
 refine wpAny_bind (wpAny_field ho hd (x:=.ref a) rfl ?_);refine wpAny_bind (wpAny_field ho hd (x:=rawInt (i:Int)) rfl ?_);show wpAny _ _ (if (i:Int)<0 then _ else _) _ _ s;rw[if_neg (show ¬ ((i:Int)<0) by lia)]
 refine wpAny_bind (wpAny_specialOf ht.typeIs F.slot_tuple_getitem.lookup ?_)
 try dsimp only
 rw[if_neg (by simp)]
 refine wpAny_bind (wpAny_mkInt ?_);refine wpAny_bind (wpAny_attempt (getItem_tuple (s:={ s with toks:=s.toks+1 }) (show IsTup s.heap a items from ht) (by lia) (by lia) (seqIndex_of (by lia) (by lia)) (by simpa using hx) ?_))
 refine wpAny_bind (wpAny_field (s:={ s with toks:=s.toks+1 }) ho hd (x:=rawInt (i:Int)) rfl ?_);show wpAny _ _ (setField (Value.ref it) 1 (rawInt ((i:Int)-1)) >>= _) _ _ _;refine wpAny_bind (wpAny_setField (s:={ s with toks:=s.toks+1 }) ho hd (by simp) ?_)
 refine wpAny_pure ⟨x,rfl,wpAny_pure (hQ _ _ ?_ (Heap.SameBut.update ..))⟩;refine⟨_,Heap.get?_update_self _ ho (Obj.isFreed_of_fields (Obj.data_mapFields hd _)),(Obj.cls_mapFields ..).trans hc,?_⟩;rw[Obj.data_mapFields hd];simp
theorem vR{it a:Addr}{j:Int}{Q:Option Value->Shared->Prop}(hh:A.handled=none)(hit:IsRv s.heap it a j)(hj:j<0)
  (hQ:∀h',Heap.ExtBut it s.heap h'->Q none { s with heap:=h' }):wpAny (model prog w) A (pyNext (.ref it)) Q E s:=by
 obtain⟨o,ho,hc,hd⟩:=id hit;unfold pyNext;refine wpAny_bind (wpAny_attempt (wpAny_callSpecial?_slot (name:=Str.ofString "__next__") hit.ty nx_slot (wpAny_call_entry nx_slot hit.ty lL ?_ (n5 _))));unfold Builtin.«reversed.__next__»;refine wpAny_bind (wpAny_of_eq (a:=(Value.ref it,[])) rfl ?_)
 try dsimp only
 refine wpAny_bind (wpAny_field ho hd (x:=.ref a) rfl ?_);refine wpAny_bind (wpAny_field ho hd (x:=rawInt j) rfl ?_);show wpAny _ _ (if j<0 then _ else _) _ _ s;rw[if_pos hj];refine wpAny_bind (wpAny_rule ?_);refine wpAny_bind ?_;show wpAny _ _ (setField (Value.ref it) 1 (rawInt (-1)) >>= fun _=>setField (Value.ref it) 0 .none) _ _ s;refine wpAny_bind (wpAny_setField ho hd (by simp) ?_)
 have g1:=Heap.get?_update_self (Obj.mapFields (·.setIfInBounds 1 (rawInt (-1)))) ho (Obj.isFreed_of_fields (Obj.data_mapFields hd _));refine wpAny_setField g1 (Obj.data_mapFields hd _) (by simp) ?_
 refine wpAny_bind ?_;show wpAny _ _ (newExc (.type "StopIteration") [] >>= _) _ _ _;refine wpAny_bind ?_;simp only[newExc,newTuple];refine wpAny_bind (wpAny_newObj_type ?_ (by size_fits))
 refine wpAny_bind (m:=firstArgMember _ _) (wpAny_of_eq (a:=Value.none) (by first|rfl|(simp only[firstArgMember];rfl)) ?_)
 refine wpAny_newObj_type ?_ (by size_fits)
 simp only[raiseNew];refine wpAny_bind (wpAny_handled ?_)
 first|rw[show A.in1.handled=none from hh]|rw[hh]
 refine wpAny_bind (wpAny_pure (wpAny_throw ?_));refine wpAny_bind (wpAny_isInstance (T:="StopIteration") (b:=true) ⟨_,Heap.get?_push_size _ rfl,rfl⟩ isSubtype_stop ?_);refine wpAny_pure (hQ _ ?_);have e1:Heap.ExtBut it s.heap (s.heap.update it (Obj.mapFields (·.setIfInBounds 1 (rawInt (-1))))):=fun b o2 hb e=>(Heap.get?_update_other s.heap _ (Ne.symm hb)).trans e;have e2:Heap.ExtBut it s.heap ((s.heap.update it (Obj.mapFields (·.setIfInBounds 1 (rawInt (-1))))).update it (Obj.mapFields (·.setIfInBounds 0 .none))):=fun b o2 hb e=>(Heap.get?_update_other _ _ (Ne.symm hb)).trans (e1 b o2 hb e);exact(e2.push _).push _
theorem n6{it a:Addr}{i:Int}{Q:Value->Shared->Prop}(hit:IsRv s.heap it a i)(h:Q (.ref it) s):wpAny (model prog w) A (pyIter (.ref it)) Q E s:=by
 refine wpAny_pyIter_slot hit.ty n4 (wpAny_call_entry n4 hit.ty qF ?_ (sL _));show wpAny _ _ (ret (.ref it)) _ _ s;exact wpAny_pure ⟨_,rfl,"reversed",_,hit.ty,nx_slot.lookup,h⟩
theorem vS:typeLookup (.type "tuple") "__reversed__"=pure none:=by
 rw[typeLookup_type,builtinLookup_eq_fast]
 kernel_rfl
theorem vT:isSubtype (.type "tuple") (.type "dict")=pure false:=by
 rw[isSubtype_type]
 kernel_rfl
noncomputable def lM(a:Addr)(i:Int):Obj:={ cls:=.type "reversed",data:=.fields #[.ref a,rawInt i] }
theorem qG(a:Addr)(items:Array Value)(hz:items.size<=sizeLine) :
  Meets (Builtin.«reversed.__new__» ⟨[.type "reversed",.ref a],[]⟩) (fun _ R s=>IsTup s.heap a items/\∀t',R (.ok (.ret (.ref s.heap.objs.size))) { s with heap:=s.heap.push (lM a ((items.size:Int)-1)),toks:=t' }):=by
 have hs:=sizeLine_eq;refine .of_wp fun prog w A R s h=>?_;obtain⟨ht,hR⟩:=h;unfold Builtin.«reversed.__new__»;refine wpAny_bind (wpAny_of_eq (PySem.newClass_reversed _) ?_)
 try dsimp only
 refine wpAny_bind (wpAny_of_eq (a:=()) (by first|rfl|kernel_rfl) ?_)
 refine wpAny_bind (wpAny_of_eq (a:=()) (by first|rfl|kernel_rfl) ?_)
 try dsimp only
 refine wpAny_bind (wpAny_specialOf ht.typeIs vS ?_)
 try dsimp only
 refine wpAny_bind ?_;show wpAny _ _ (isInstance (.ref a) (.type "dict") >>= _) _ _ s;refine wpAny_bind (wpAny_isInstance (T:="tuple") (b:=false) ht.typeIs vT ?_);rw[if_neg (by decide)]
 refine wpAny_bind (wpAny_specialOf ht.typeIs F.slot_tuple_getitem.lookup ?_);refine wpAny_pure ?_;rw[if_neg (by decide)]
 refine wpAny_bind (len_tuple ht (by lia) ?_)
 refine wpAny_bind (wpAny_of_eq (a:=some ((items.size:Nat):Int)) rfl ?_);show wpAny _ _ (newObj (.type "reversed") (.fields #[.ref a,rawInt ((items.size:Int)-1)]) >>= _) _ _ _;exact wpAny_bind (wpAny_newObj_type (wpAny_pure ⟨_,rfl,hR _⟩))
theorem sN:Slot "reversed" "__init__" "object.__init__":=by
 refine .of (owner:="object") (n:="__init__") ?_ ?_ ?_ ?_ ?_ ?_
 ·rw[typeLookup_type,builtinLookup_eq_fast]
  kernel_rfl
 ·decide +kernel
 ·decide +kernel
 ·decide +kernel
 ·first
   | exact .inl (by decide +kernel)
   | exact .inr (by decide +kernel)
 ·rw[isSubtype_type]
  kernel_rfl
theorem pb:TypeCalled "reversed" "reversed.__new__" "object.__init__":=by
 refine⟨?_,?_,⟨_,_,F.mro_reversed⟩,F.made_reversed,F.plain_reversed_new,F.sub_reversed_self,sN⟩
 ·decide +kernel
 ·exact F.create_reversed
theorem sO{a:Addr}{items:Array Value}{Q:Value->Shared->Prop}(ht:IsTup s.heap a items)(hz:items.size<=sizeLine)
  (h:∀t',Q (.ref s.heap.objs.size) { s with heap:=s.heap.push (lM a ((items.size:Int)-1)),toks:=t' }):wpAny (model prog w) A (call (.type "reversed") [.ref a]) Q E s :=
 callType_new pb (by decide) (F.typeCall_reversed_1 _) (F.newCall_reversed_1 _) (fun obj=>F.args_object_init_2 obj _) F.entry_reversed_new (qG a items hz) ⟨ht,fun t'=>⟨⟨_,Heap.get?_push_size _ rfl,rfl⟩,h t'⟩⟩
noncomputable def Itv(K:PySem.W.Frag)(a:Addr)(xs:List V):It:=⟨fun i H=>SqT K H a xs/\i<xs.length,fun i H v H'=>H'=H/\xs.reverse[i]?=some v,fun i _=>xs.length<=i⟩
theorem sP{P:Program}{w:World}{K:PySem.W.Frag}{tg:Expr}(a it:Addr)(xs:List V):Turn P w K tg (Itv K a xs) [it] it (fun i h=>IsRv h it a ((xs.length:Int)-1-(i:Nat))) where
 mem:=by simp
 obj:=fun i h st b hb=>by
  have e:b=it:=by simpa using hb
  subst e;obtain⟨o,e,c,d⟩:=st;exact⟨o,e,fun v z=>by rw[d]at z;cases z⟩
 keep:=fun i h h' st k=>by
  obtain⟨o,e,r⟩:=st;exact⟨o,k it (by simp) o e,r⟩
 item:=by
  intro X hP hw hK hc i pins s σ H E I hf st hg;subst hP hw hK;obtain⟨f0,f1,f2,f3,f4,f5⟩:=hf it (by simp)
  obtain⟨hq,hi⟩:=hg;obtain⟨its,rv,p,hz⟩:=I.tuple hq;have hl:=rv.length;have e1:((xs.length:Int)-1-(i:Nat))=((xs.length-1-i:Nat):Int):=by lia
  rw[e1]at st;have hx:xs.reverse[i]?=some (xs[xs.length-1-i]'(by lia)):=by
   rw[Zh hi,Va (by lia)]
  obtain⟨u,hu,ru⟩:=rv.get (Va (show xs.length-1-i<xs.length by lia))
  refine sM st p (x:=u) (by simpa using hu) (by rw[Ya];lia) fun h' t' st' sb=>?_
  have I1:Inv X pins σ H { s with heap:=h',toks:=t' }:=I.turned (fun b o hb e=>sb.extBut b o hb e) f0 f1 f3 f4 f5;obtain⟨o,e,c,d⟩:=id st';have e2:(((xs.length-1-i:Nat):Int)-1)=((xs.length:Int)-1-((i+1:Nat):Int)):=by lia
  rw[e2]at st';exact⟨u,rfl,jK (s:={ s with heap:=h',toks:=t' }) e c d (by decide) ⟨_,H,I1,ru,⟨rfl,hx⟩,st',fun b hb=>(hf b hb).1⟩⟩
 done:=by
  intro X hP hw hK hc i pins s σ H E I hf st hg;subst hP hw hK;obtain⟨f0,f1,f2,f3,f4,f5⟩:=hf it (by simp)
  have hg':xs.length<=i:=hg;exact vR (I.ok.hd hc) st (by lia) fun h' eb=>⟨rfl,I.turned (t':=s.toks) (fun b o hb e=>eb b o hb e) f0 f1 f3 f4 f5⟩
 self:=fun _ _ _ _ _ st h=>n6 st h
end
section
variable {X:Cx}{K:PySem.W.Frag}
noncomputable def vU(K:PySem.W.Frag)(ta:TA):TI:=fun σ H R=>ta σ H fun vs H1=>∃a xs,vs=[.ref a]/\SqT K H1 a xs/\R (Itv K a xs) H1
theorem boot_reversed:bootBuiltins "reversed"=some (.type "reversed"):=by decide +kernel
theorem sQ{tg a:Expr}{ta:TA}{p pos:Pos}(hg:Gl X "reversed")(hm:X.mg "reversed"=none)(ha:PA X [a] ta)(hs:starEach [a] X.env=[(false,eval a X.env)]:=by rfl):PI X tg (.Call (.Name "reversed" p) [a] [] pos) (vU X.K ta):=by
 intro pins s σ H R I h;refine Call_ (iX I hg hm boot_reversed (PyProof.Rows.callWith_type1 (thn (ha pos pins s σ H _ I h) fun us s1 ⟨vs,H1,I1,r1,q1⟩=>?_) hs rfl));obtain⟨b,xs,e,hq,q⟩:=q1;subst e;cases r1 with
 | cons r rr =>
  cases rr;cases r;obtain⟨its,rv,pt,hz⟩:=I1.tuple hq;have hl:=rv.length;refine sO pt (by rw[Ya];lia) fun t'=>?_
  have I2:Inv X pins σ H1 { s1 with heap:=s1.heap.push (lM b ((its.toArray.size:Int)-1)),toks:=t' }:=I1.kept fun c o e=>Heap.get?_push_of_some _ e;have st:IsRv (s1.heap.push (lM b ((its.toArray.size:Int)-1))) s1.heap.objs.size b ((xs.length:Int)-1-((0:Nat):Int)):=by
   refine⟨_,Heap.get?_push_size _ rfl,rfl,?_⟩;show Data.fields #[.ref b,rawInt ((its.toArray.size:Int)-1)]=_;rw[Ya,← hl];simp
  refine n6 (s:={ s1 with heap:=s1.heap.push (lM b ((its.toArray.size:Int)-1)),toks:=t' }) st ⟨s1.heap.objs.size,[s1.heap.objs.size],_,_,H1,rfl,I2,sP b _ xs,st,fun c hc=>?_,q⟩;have e:c=s1.heap.objs.size:=by simpa using hc
  subst e;exact I1.fpOk (Xa _) (I1.hok.fresh (Xa _))
theorem lN{tg a:Expr}{te:TE}{p pos:Pos}(h:X.K=K)(hg:Gl X "reversed")(hs:starEach [a] X.env=[(false,eval a X.env)])(hm:X.mg "reversed"=none)(ha:PE X a te):PI X tg (.Call (.Name "reversed" p) [a] [] pos) (vU K (cE te km)):=by
 subst h;exact sQ hg hm (kn ha ag hs) hs
noncomputable def n8(fe:FE):FI:=fun st=>(fe st).bind fun x=>(cont x.2 x.1).bind fun d=>(d.itt).bind fun ds=>some (ds.reverse,x.2)
theorem vV{te:TE}{fe:FE}(h:RdE K te fe):RdI K (vU K (cE te km)) (n8 fe):=by
 intro st σ H O Z R E items st' e q;refine bsP e fun r st1 e1 e=>?_;refine bsO e fun d e2 e=>?_;refine bsO e fun ds e3 e=>?_;cases e;refine h st σ H O Z _ E r _ e1 fun v H1 O1 x1 k1 E1 rv w1=>?_;cases d with
 | tup ds' =>
  cases e3;obtain⟨a,vs,rfl,h1,el⟩:=rv.ba E1 e2;refine⟨a,vs,rfl,h1.sq,q _ H1 O1 x1 k1 E1 fun H' O' ex _=>?_⟩;have da':=(DA.tup h1 el.1 el.2).ext ex;have el':=el.ext ex;have hl:=el.1;have sq:SqT K H' a vs:=TupA.sq (Y:=U O1 Z) (h1.go (fun b o e ny=>ex.kp b o e fun z=>ny (.inl z)) fun b z=>.inl z);refine⟨fun i hi=>?_,fun i d hd=>?_⟩
  ·show vs.length<=i;rw[Ve]at hi;lia
  ·have hi:i<vs.length:=by
    have:=(Wa.mp hd).1;rw[Ve]at this;lia
   refine⟨⟨sq,hi⟩,fun x H'' hx=>?_⟩;obtain⟨rfl,hx⟩:=hx;exact⟨Same.refl _,el'.rev.2 i x d hx hd⟩
 | _=>cases e3
end
end VF
namespace VF
open PySem PySem.Spec PyProof.Rows L2
section
variable {prog:Program}{w:World}{A:Around}{E:Value->Shared->Prop}{s:Shared}
theorem mQ(n:Nat):Builtin.Slice.slicePlaces ((n:Int)-1) (-1) (-1)=n:=by
 unfold Builtin.Slice.slicePlaces;rw[if_neg (by decide)]
 have e:(- (-1):Int)=1:=rfl;rw[e,Int.ediv_one];split<;>lia
theorem mR(n:Nat):Builtin.Slice.sliceAdjust none none (-1) (n:Int)=((n:Int)-1,-1):=by
 unfold Builtin.Slice.sliceAdjust;simp
theorem lO{sl:Addr}{n:Nat}{t:Tok}{Q:Int×Int×Nat->Shared->Prop}(hs:s.heap.IsSliceOf sl .none .none (.int (-1) t))(h:Q ((n:Int)-1,-1,n) s) :
  wpAny (model prog w) A (Builtin.Slice.sliceApplied (.ref sl) (pure (n:Int))) Q E s:=by
 obtain⟨os,hos,hcs,hds⟩:=id hs;unfold Builtin.Slice.sliceApplied Builtin.Slice.sliceFields;refine wpAny_bind (wpAny_bind (wpAny_field hos hds (x:=.none) rfl (wpAny_bind (wpAny_field hos hds (x:=.none) rfl (wpAny_bind (wpAny_field hos hds (x:=.int (-1) t) rfl (wpAny_pure ?_)))))));refine wpAny_bind (HT.slicePart_ (.int (-1) t) ?_);show wpAny _ _ (if ((-1:Int) == 0)=true then _ else _) _ _ s;rw[if_neg (by decide)]
 refine wpAny_bind (HT.slicePart_ .none (wpAny_bind (HT.slicePart_ .none (wpAny_bind (wpAny_pure ?_)))));show wpAny _ _ (match Builtin.Slice.sliceAdjust none none (-1) (n:Int) with|(lo,hi)=>pure (lo,(-1:Int),Builtin.Slice.slicePlaces lo hi (-1))) _ _ s
 rw[mR];show wpAny _ _ (pure ((n:Int)-1,(-1:Int),Builtin.Slice.slicePlaces ((n:Int)-1) (-1) (-1))) _ _ s;rw[mQ];exact wpAny_pure h
theorem picked_rev(its:List Value):((List.range its.length).filterMap fun(k:Nat)=>its.toArray[((its.length:Int)-1+(k:Int)*(-1)).toNat]?).toArray=its.reverse.toArray:=by
 congr 1;refine Eq.trans (dq (g:=fun k=>its.reverse[k]?) fun k hk=>?_) ?_
 ·have hk':=Zi.mp hk;have e:((its.length:Int)-1+(k:Int)*(-1)).toNat=its.length-1-k:=by lia
  rw[e,Zh hk'];simp
 ·have:=gY its.reverse;rw[Ve]at this;exact this
theorem ge{t sl:Addr}{its:List Value}{u:Tok}{Q:Value->Shared->Prop}(ht:IsTup s.heap t its.toArray)(hs:s.heap.IsSliceOf sl .none .none (.int (-1) u))(hsz:its.length<=sizeLine)
  (h:Q (.ref s.heap.objs.size) { s with heap:=s.heap.push { cls:=.type "tuple",data:=.seq its.reverse.toArray } }):wpAny (model prog w) A (getItem (.ref t) (.ref sl)) Q E s:=by
 have fits:sizeOk (.seq its.reverse.toArray):=by
  show its.reverse.toArray.size<=sizeLine;rw[Ya,Ve];exact hsz
 obtain⟨os,hos,hcs,hds⟩:=id hs;have hT:s.TypeIs (.ref sl) "slice":=⟨os,hos,hcs⟩;unfold getItem
 try with_reducible refine wpAny_holding ?_
 first
  | refine wpAny_bind (wpAny_pure ?_)
  | skip
 refine wpAny_bind (wpAny_sequenceKey ht.typeIs (by decide) ?_)
 refine wpAny_bind (wpAny_callSpecial?_slot (name:=Str.ofString "__getitem__") ht.typeIs PyProof.Rows.slot_tuple_getitem (wpAny_call_entry PyProof.Rows.slot_tuple_getitem ht.typeIs entry_tuple_getitem ?_ (args_tuple_getitem _ _)));show wpAny _ _ (Builtin.Tuple.tupleItemsOf (.ref t) >>= _) _ _ s;refine wpAny_bind (tupleItemsOf_ ht ?_);refine wpAny_bind (wpAny_typeOf hT ?_);rw[if_pos (by decide)]
 refine wpAny_bind (lO hs ?_);have hno:¬ ((((its.toArray.size:Int)-1) == 0&&(-1:Int) == 1&&its.toArray.size == its.toArray.size)=true):=by
  intro q;rw[Vc,Vc]at q;exact absurd q.1.2 (by decide)
 show wpAny _ _ (if (((its.toArray.size:Int)-1) == 0&&(-1:Int) == 1&&its.toArray.size == its.toArray.size)=true then _ else _) _ _ s;rw[if_neg hno];show wpAny _ _ (Builtin.Tuple.tupleExact ((List.range its.toArray.size).filterMap fun(k:Nat)=>its.toArray[((its.toArray.size:Int)-1+(k:Int)*(-1)).toNat]?).toArray >>= _) _ _ s;have e:((List.range its.toArray.size).filterMap fun(k:Nat)=>its.toArray[((its.toArray.size:Int)-1+(k:Int)*(-1)).toNat]?).toArray=its.reverse.toArray:=picked_rev its;rw[e]
 first
  | exact wpAny_bind (m:=Builtin.Tuple.tupleExact _) (wpAny_newObj_type (wpAny_pure ⟨_,rfl,wpAny_pure h⟩) fits)
  | exact wpAny_bind (m:=Builtin.Tuple.tupleExact _) (wpAny_newObj_type (wpAny_bind (wpAny_pure (wpAny_pure ⟨_,rfl,wpAny_pure h⟩))) fits)
  | exact wpAny_bind (wpAny_bind (m:=Builtin.Tuple.tupleExact _) (wpAny_newObj_type (wpAny_pure (wpAny_pure ⟨_,rfl,wpAny_pure h⟩)) fits))
  | exact wpAny_bind (wpAny_bind (m:=Builtin.Tuple.tupleExact _) (wpAny_newObj_type (wpAny_pure ⟨_,rfl,wpAny_pure h⟩) fits))
end
section
variable {X:Cx}{K:PySem.W.Frag}{Y:AS}{H:Hp}{v:V}{d:D}{vs:List V}{ds:List D}
noncomputable def uz(K:PySem.W.Frag)(te:TE):TE:=fun σ H Q=>te σ H fun x H1=>∃a xs,x=.ref a/\SqT K H1 a xs/\∀p,H1 p=none->Q (.ref p) (upd H1 p (.tup xs.reverse))
theorem sR{e:Expr}{te:TE}{j:Nat}{p1 p2 p3 pos:Pos}(he:PE X e te):PE X (.Subscript e (.Slice none none (some (.UnaryOp .USub (.Constant (.int 1) j p1) p2)) p3) pos) (uz X.K te):=by
 intro pins s σ H Q I h;refine Subscript_ (thn (he pins s σ H _ I h) fun v s1 zz9=>?_);obtain⟨x,H1,I1,r1,q1⟩:=zz9;obtain⟨a,xs,rfl,hx,q⟩:=q1;cases r1;refine wpAny_Slice ?_;rw[evalPart_none];refine wpAny_pure ?_;refine wpAny_pure ?_;rw[evalPart_some];refine UnaryOp_ (wpAny_Constant_int (neg_int ?_));have I2:=I1.tok (s1.toks+1+1);have I4:=I2.kept (t':=s1.toks+1+1) (h':=s1.heap.push { cls:=.type "slice",data:=.fields #[.none,.none,.int (-1) (s1.toks+1)] }) fun b ob q=>Heap.get?_push_of_some _ q;obtain⟨its,r,ht,hz⟩:=I4.tuple hx;have hlen:=r.length;refine tail_any (ops:=[.ref a,.ref s1.heap.objs.size]) ht.typeIs PyProof.Rows.slot_tuple_getitem.lookup ?_ (by with_unfolding_all rfl)
 refine ge ht (Heap.IsSliceOf.new ..) (by lia) ?_
 refine⟨.ref _,_,I4.laid (t':=s1.toks+1+1) (o:=.tup xs.reverse) (fun b ob q=>Heap.get?_push_of_some _ q) (Xa _) ?_,rfl,q _ (I4.hok.fresh (Xa _))⟩;exact⟨by rw[Ve];exact hz,_,r.reverse,IsTup.new _ _⟩
noncomputable def uA(K:PySem.W.Frag)(te:TE):TE:=fun σ H Q=>uf K te σ H Q∨uz K te σ H Q
theorem sS{e:Expr}{te:TE}{j:Nat}{p1 p2 p3 pos:Pos}(h:X.K=K)(he:PE X e te):PE X (.Subscript e (.Slice none none (some (.UnaryOp .USub (.Constant (.int 1) j p1) p2)) p3) pos) (uA K te):=by
 subst h;intro pins s σ H Q I hh;rcases hh with hh|hh
 ·exact vo he pins s σ H Q I hh
 ·exact sR he pins s σ H Q I hh
noncomputable def xb:D->Option Rz
 | .lst ds=>some (.lst ds.reverse,true)
 | .fl ds=>some (.lst ds.reverse,true)
 | .tup ds=>some (.tup ds.reverse,false)
 | _=>none
noncomputable def sT(fe:FE):FE:=fun st=>(fe st).bind fun x=>(cont x.2 x.1).bind fun d=>(xb d).bind fun z=>some (mk z,x.2)
theorem vW{te:TE}{fe:FE}(h:RdE K te fe):RdE K (uA K te) (sT fe):=by
 intro st σ H O Z Q E r st' e q;refine bsP e fun r1 st1 e1 e=>?_;refine bsO e fun d e2 e=>?_;refine bsO e fun z e3 e=>?_;cases e;cases d with
 | lst ds =>
  cases e3;refine .inl (h st σ H O Z _ E r1 _ e1 fun v H1 O1 x1 k1 E1 rv w1=>?_);obtain⟨a,vs,rfl,h1,el⟩:=rv.ba E1 e2;refine⟨a,vs,rfl,.inl (.inl h1),fun p hp=>?_⟩;obtain⟨E3,rv3⟩:=E1.new hp el.rev;exact q _ _ O1 (x1.trans (Same.ext (aY hp _))) k1 E3 rv3 fun p' e=>by cases e;exact x1.dead hp
 | fl ds =>
  cases e3;refine .inl (h st σ H O Z _ E r1 _ e1 fun v H1 O1 x1 k1 E1 rv w1=>?_);obtain⟨a,vs,rfl,h1,el⟩:=rv.ba E1 e2;refine⟨a,vs,rfl,h1.sq,fun p hp=>?_⟩;obtain⟨E3,rv3⟩:=E1.new hp el.rev;exact q _ _ O1 (x1.trans (Same.ext (aY hp _))) k1 E3 rv3 fun p' e=>by cases e;exact x1.dead hp
 | tup ds =>
  cases e3;refine .inr (h st σ H O Z _ E r1 _ e1 fun v H1 O1 x1 k1 E1 rv w1=>?_);obtain⟨a,vs,rfl,h1,el⟩:=rv.ba E1 e2;refine⟨a,vs,rfl,h1.sq,fun p hp=>?_⟩;obtain⟨E3,rv3⟩:=E1.newT hp el.rev;exact q _ _ O1 (x1.trans (Same.ext (aY hp _))) k1 E3 rv3 True.intro
 | _=>cases e3
end
end VF
namespace VF
open PySem L2
section
variable {K:PySem.W.Frag}
theorem dW{X:Cx}{x:Str}{T:String}{pos:Pos}(hg:Gl X x)(hm:X.mg x=none)(hv:bootBuiltins x=some (.type T))(hn:x≠"__name__":=by decide)(hd:(x == ("__debug__":Str))=false:=by decide):PE X (.Name x pos) (tC (.ty T)):=rQ hg hm hv rfl hn hd
noncomputable def n9(K:PySem.W.Frag):Sp:=fun vs H Q _=>∃(a:Addr)(ns:List Int),vs=[.ref a]/\SqL K H a (ns.map V.int)/\ns.length<=63/\∀H',Q (.bl true) H'
end
end VF
namespace VF
open PySem L2
inductive Dp:Nat->D->Prop where
 | bl (n:Nat) (b:Bool):Dp (n+1) (.bl b)
 | int (n:Nat) (i:Int):Dp (n+1) (.int i)
 | str (n:Nat) (x:Str):Dp (n+1) (.str x)
 | non (n:Nat):Dp (n+1) .non
 | tup {n:Nat} {ds:List D}:ds.length<=1000000->(∀d∈ds,Dp n d)->Dp (n+1) (.tup ds)
 | lst {n:Nat} {ds:List D}:ds.length<=1000000->(∀d∈ds,Dp n d)->Dp (n+1) (.lst ds)
open Classical in
noncomputable def cA(n:Nat):List D->Option Rz
 | [u,v]=>if u=v/\Dp n u then some (.bl true,false) else none
 | _=>none
open Classical in
theorem jd{n:Nat}{u:D}(h:Dp n u):cA n [u,u]=some (.bl true,false):=by
 show(if u=u/\Dp n u then some (D.bl true,false) else none)=_;rw[if_pos ⟨rfl,h⟩]
set_option tactic.hygienic true in
theorem j0{n:Nat}{ds:List D}{z:Rz}(h:cA n ds=some z):∃u,ds=[u,u]/\Dp n u/\z=(.bl true,false):=by
 unfold cA at h;split at h
 ·rename_i u v
  by_cases c:u=v/\Dp n u
  ·rw[if_pos c]at h;obtain⟨rfl,c⟩:=c;exact⟨u,rfl,c,(Option.some.inj h).symm⟩
  ·rw[if_neg c]at h;cases h
 ·cases h
end VF
namespace VF
open PySem L2
section
variable {st st1 st2 st3 s s1 s2:En}{r r1 r2:Rs}{d d1 d2 x y x':D}{ds es:List D}{rs:List Rs}{z:Rz}{o:Ot}{i k n m:Nat}{F G B:FS}{fa fb fe fi':FE}{fr:FA}{f g:FT}{fi:FI}{fg:FG}{caps:List Nat}
theorem ap{a:Option Ot}(h:F st=some (.nx s))(h2:G s=a):aJ F G st=a:=by simp only[aJ,h,Za];exact h2
theorem dw(h:F st=some (.rt r s)):aJ F G st=some (.rt r s):=by simp only[aJ,h,Za]
theorem d5{a:Option Ot}(h:f st=some (true,s))(h2:F s=a):sIf f F G st=a:=by simp only[sIf,h,Za,if_true];exact h2
theorem eQ{a:Option Ot}(h:f st=some (false,s))(h2:G s=a):sIf f F G st=a:=by simp only[sIf,h,Za,Zd,if_false];exact h2
theorem bY(h:fe st=some (.d x,s))(h2:i8 i (.v x) s=some s1):bF fe i st=some (.nx s1):=by simp only[bF,h,Za,h2]
theorem oa(h:fe st=some (.f x,s))(h2:i8 i (.o x) s=some s1):bF fe i st=some (.nx s1):=by simp only[bF,h,Za,h2]
theorem iQ(h:fe st=some (r,s)):gF fe st=some (.nx s):=by simp only[gF,h,Za]
theorem aO(h:fe st=some (r,s)):bx fe st=some (.rt r s):=by simp only[bx,h,Za]
theorem aw{b:D->D->Option Rz}(h1:fa st=some (r1,s1))(h2:fb s1=some (r2,s2))(h3:cont s2 r1=some d1)(h4:cont s2 r2=some d2)(h5:b d1 d2=some z)(hz:mk z=r:=by rfl):fOp b fa fb st=some (r,s2):=by
 simp only[fOp,h1,h2,h3,h4,h5,hz,Za]
theorem aB(h1:fa st=some (r,s1))(h2:fr s1=some (rs,s2)):ad fa fr st=some (r::rs,s2):=by simp only[ad,h1,h2,Za]
theorem df{b:List D->Option Rz}(h1:fr st=some (rs,s1))(h2:ce s1 rs=some ds)(h3:b ds=some z)(hz:mk z=r:=by rfl):fCB b fr st=some (r,s1):=by simp only[fCB,h1,h2,h3,hz,Za]
theorem cH{b:List D->Option Rz}(h1:fr st=some (rs,s1))(h2:b6 rs s1=some (ds,s2))(h3:b ds=some z)(hz:mk z=r:=by rfl):cX b fr st=some (r,s2):=by simp only[cX,h1,h2,h3,hz,Za]
theorem bZ{b:List D->Option Rz}(h1:fr st=some (rs,s1))(h2:ce s1 rs=some ds)(h3:b ds=some (d,false))(h4:d.isSc=true):cg b fr st=some (.d d,s1):=by
 simp only[cg,h1,h2,h3,Za,h4];rfl
theorem bc{b:D->List D->Option (Rz×D)}{t t0:Sl}{x0:D}(h0:st[i]?=some t0)(h00:t0.ow=some x0)(h1:fr st=some (rs,s1))(h2:b6 rs s1=some (ds,s2))(h3:s2[i]?=some t)(h4:t.ow=some x)(h5:b x ds=some (z,x'))(hz:mk z=r:=by rfl)(h6:s2.set i (t.put x')=st3:=by rfl):fIO b i fr st=some (r,st3):=by
 simp only[fIO,h0,h00,h1,h2,h3,h4,h5,h6,hz,Za]
theorem qH{ok:D->Bool}{mm:D->List D->Option (D×D)}{t t0:Sl}{x0:D}(h0:st[i]?=some t0)(h00:t0.ow=some x0)(hk:ok x0=true)(h1:fr st=some (rs,s1))(h2:b6 rs s1=some (ds,s2))(h3:s2[i]?=some t)(h4:t.ow=some x)(h5:mm x ds=some (y,x'))(h6:s2.set i (t.put x')=st3:=by rfl):fM ok mm i fr st=some (.d y,st3):=by
 simp only[fM,h0,h00,hk,h1,h2,h3,h4,h5,h6,Za,if_true]
theorem aQ{c:Bool}(h:fe st=some (r,s))(h2:tru s r=some c):aX fe st=some (c,s):=by simp only[aX,h,h2,Za]
theorem gf{c:Bool}(h:f st=some (c,s)):gA f st=some (!c,s):=by simp only[gA,h,Za]
theorem uB{a:Option (Bool×En)}(h:f st=some (true,s))(h2:g s=a):i6 f g st=a:=by simp only[i6,h,Za,if_true];exact h2
theorem xf(h:f st=some (false,s)):i6 f g st=some (false,s):=by simp only[i6,h,Za,Zd,if_false]
theorem xg{a:Option (Bool×En)}(h:f st=some (false,s))(h2:g s=a):lz f g st=a:=by simp only[lz,h,Za,Zd,if_false];exact h2
theorem xP(h:f st=some (true,s)):lz f g st=some (true,s):=by simp only[lz,h,Za,if_true]
theorem kL{a:Option (Rs×En)}(h:fa st=some (r,s))(h1:tru s r=some true)(h2:fb s=a):iq fa fb st=a:=by simp only[iq,h,h1,Za,if_true];exact h2
theorem dO{fc:FT}(h1:fi st=some (ds,s1))(h2:(kC caps s1.length&&decide (ds.length<=1000000))=true)(h3:cY fg fc fe k ds (fP k caps s1)=some (es,s2))(h4:wb caps (s2.drop k) s1=st3:=by rfl):ef k caps fi fg fc fe st=some (.f (.lst es),st3):=by
 simp only[ef,h1,Za];rw[if_pos h2,h3,← h4];rfl
theorem mT(h1:fi st=some (ds,s1))(h2:fS fg B ds s1=some o):mF fi fg B st=some o:=by simp only[mF,h1,Za];exact h2
theorem bh(h0:ds.length=m)(h1:F (et n ds)=some o)(h2:fin o=some z):bu F n m ds=some z:=by
 simp only[bu,if_pos h0,h1,Za];exact h2
theorem bG{w:Rz×D}(h0:ds.length+1=m)(h1:F (du n x ds)=some o)(h2:uo o=some w):bV F n m x ds=some w:=by
 simp only[bV,if_pos h0,h1,Za];exact h2
theorem hU{fc:FT}(h:D->D):∀(items:List D)(sb:En),(∀x∈items,∃s1 s2 y s3 s4,fg x sb=some s1/\fc s1=some (true,s2)/\fe s2=some (y,s3)/\esc y s3=some (h x,s4)/\rst k s4=sb)->cY fg fc fe k items sb=some (items.map h,sb)
 | [],sb,_=>rfl
 | x::r,sb,hh=>by
  obtain⟨s1,s2,y,s3,s4,e1,e2,e3,e4,e5⟩:=hh x Wd;have ih:=hU h r sb fun z hz=>hh z (Xc _ hz);simp only[cY,e1,e2,e3,e4,Za,if_true,e5,ih,List.map_cons]
theorem hV{fc:FT}(I:List D->En->Prop)(step:∀(pre:List D)(x:D)(sb:En),I pre sb->∃s1 s2 y s3 d s4,fg x sb=some s1/\fc s1=some (true,s2)/\fe s2=some (y,s3)/\esc y s3=some (d,s4)/\I (pre++[d]) (rst k s4)) :
  ∀(items:List D)(pre:List D)(sb:En),I pre sb->∃ds sf,cY fg fc fe k items sb=some (ds,sf)/\ds.length=items.length/\I (pre++ds) sf
 | [],pre,sb,h=>⟨[],sb,rfl,rfl,by rw[Xe];exact h⟩
 | x::r,pre,sb,h=>by
  obtain⟨s1,s2,y,s3,d,s4,e1,e2,e3,e4,e5⟩:=step pre x sb h;obtain⟨ds,sf,e6,e7,e8⟩:=hV I step r (pre++[d]) (rst k s4) e5;refine⟨d::ds,sf,?_,by simp[e7],by rw[Xg]at e8;exact e8⟩
  simp only[cY,e1,e2,e3,e4,Za,if_true,e6]
theorem lP(all:List D)(I:List D->En->Prop)(step:∀(gone:List D)(x:D)(st:En),x∈all->I gone st->∃s1 s2,fg x st=some s1/\B s1=some (.nx s2)/\I (gone++[x]) s2) :
  ∀(items gone:List D)(st:En),(∀x∈items,x∈all)->I gone st->∃sf,fS fg B items st=some (.nx sf)/\I (gone++items) sf
 | [],gone,st,_,h=>⟨st,rfl,by rw[Xe];exact h⟩
 | x::r,gone,st,ha,h=>by
  obtain⟨s1,s2,e1,e2,e3⟩:=step gone x st (ha x Wd) h;obtain⟨sf,e4,e5⟩:=lP all I step r (gone++[x]) s2 (fun z hz=>ha z (Xc _ hz)) e3;refine⟨sf,?_,by rw[Xg]at e5;exact e5⟩
  simp only[fS,e1,e2,Za];exact e4
theorem mU(I:Nat->En->Prop)(Out:En->Prop)(step:∀(m:Nat)(st:En),I m st->(∃s1,f st=some (false,s1)/\Out s1)∨∃s1 s2 m',f st=some (true,s1)/\B s1=some (.nx s2)/\m'<m/\I m' s2) :
  ∀(n m:Nat)(st:En),m<n->I m st->∃sf,sWh f B n st=some (.nx sf)/\Out sf
 | 0,m,st,hn,_=>absurd hn (Nat.not_lt_zero _)
 | n+1,m,st,hn,h=>by
  rcases step m st h with⟨s1,e1,ho⟩|⟨s1,s2,m',e1,e2,hm,h2⟩
  ·exact⟨s1,by simp only[sWh,e1,Za,Zd,if_false],ho⟩
  ·obtain⟨sf,e3,ho⟩:=mU I Out step n m' s2 (by lia) h2
   exact⟨sf,by simp only[sWh,e1,e2,Za,if_true];exact e3,ho⟩
end
end VF
namespace VF
open PySem L2
theorem ix_str{z:Str}{i:Int}{c:Nat}(hz:z.length<=1000000)(h:atI z.cps.toList i=some c):bIx (.str z) (.int i)=some (.str ⟨#[c]⟩,false):=by
 have e1:qr (.str z) (.int i)=none:=rfl;have e2:sE (.str z) (.int i)=none:=rfl;have e3:vH (.str z) (.int i)=some (.str ⟨#[c]⟩,false):=by
  show(if z.length<=1000000 then(atI z.cps.toList i).bind (fun c=>some (D.str ⟨#[c]⟩,false)) else none)=_;rw[if_pos hz,h];rfl
 unfold bIx orD;rw[e1,e2];exact e3
theorem iR{a b:Str}(h:a.length+b.length<=1000000):bC (.str a) (.str b)=some (.str (a++b),false):=by
 have e1:lF (.str a) (.str b)=none:=rfl;have e2:lH (.str a) (.str b)=some (.str (a++b),false):=by
  show(if a.length+b.length<=1000000 then some (D.str (a++b),false) else none)=_;rw[if_pos h]
 unfold bC orD;rw[e1,e2]
theorem oe{a:Str}{n:Int}(h:0<=n/\n<=1000/\a.length<=1000):d4 (.str a) (.int n)=some (.str (Txt.mul a n),false):=by
 have e1:nU (.str a) (.int n)=none:=rfl;have e2:qp (.str a) (.int n)=some (.str (Txt.mul a n),false):=by
  show(if 0<=n/\n<=1000/\a.length<=1000 then some (D.str (Txt.mul a n),false) else none)=_;rw[if_pos h]
 unfold d4 orD;rw[e1,e2]
theorem gh:∀xs:List Str,eK (xs.map D.str)=some xs
 | []=>rfl
 | x::r=>by
  show(eK (r.map D.str)).bind (fun xs=>some (x::xs))=_;rw[gh r];rfl
theorem j4:∀xs:List Str,jY (xs.map D.str)=some (xs.map V.str)
 | []=>rfl
 | x::r=>by
  show(jY (r.map D.str)).bind (fun vs=>some (V.str x::vs))=_;rw[j4 r];rfl
theorem j5:∀n:Nat,jZ (List.replicate n (D.bl true))=some (List.replicate n true)
 | 0=>rfl
 | n+1=>by
  show(jZ (List.replicate n (D.bl true))).bind (fun bs=>some (true::bs))=_;rw[j5 n];rfl
theorem lQ(n:Nat):vJ [.lst (List.replicate n (D.bl true))]=some (.bl true,false):=by
 show(jZ (List.replicate n (D.bl true))).bind (fun bs=>some (D.bl (bs.all id),false))=_;rw[j5];show some (D.bl ((List.replicate n true).all id),false)=_;have:(List.replicate n true).all id=true:=by
  rw[Vi];intro b hb;exact List.eq_of_mem_replicate hb
 rw[this]
theorem uC{x:Str}{xs:List Str}:bIn (.str x) (.lst (xs.map D.str))=some (.bl (decide (x∈xs)),false):=by
 have e1:vE false (.str x) (.lst (xs.map D.str))=none:=rfl;have e2:vF false (.str x) (.lst (xs.map D.str))=some (.bl (decide (x∈xs)),false):=by
  show(jY (xs.map D.str)).bind (fun ws=>some (D.bl (inV (.str x) ws),false))=_;rw[j4];show some (D.bl (inV (.str x) (xs.map V.str)),false)=_;have e:inV (.str x) (xs.map V.str)=decide (x∈xs):=by
   unfold inV;rw[List.any_map];induction xs with
   | nil=>rfl
   | cons y r ih =>
    rw[List.any_cons,ih rfl];show((y == x)||decide (x∈r))=_;by_cases e:y=x
    ·subst e;simp
    ·have e':¬ x=y:=fun z=>e z.symm;simp[e,e']
  rw[e]
 unfold bIn orD;rw[e1];exact e2
theorem qI{z:Str}{lo hi:Option Int}(h:z.length<=1000000):bSl (.str z) lo hi=some (.str (Txt.slice z lo hi),false):=by
 have e1:sF (.str z) lo hi=none:=rfl;have e2:kF (.str z) lo hi=none:=rfl;have e3:sG (.str z) lo hi=some (.str (Txt.slice z lo hi),false):=by
  show(if z.length<=1000000 then some (D.str (Txt.slice z lo hi),false) else none)=_;rw[if_pos h]
 unfold bSl orS;rw[e1,e2];exact e3
section
variable {st s s1 s2 s3:En}{r r1:Rs}{rs:List Rs}{d d0 d1:D}{ds:List D}{z:Rz}{fe fo:FE}{fa:FA}{fl fh:FO}
theorem uD{T:String}{b:D->List D->Option Rz}(h1:fo st=some (r1,s1))(h2:cont s1 r1=some d0)(h3:vL T d0=true)(h4:fa s1=some (rs,s2))(h5:cont s2 r1=some d)(h6:ce s2 rs=some ds)(h7:b d ds=some z)(hz:mk z=r:=by rfl):fBM T b fo fa st=some (r,s2):=by
 simp only[fBM,h1,h2,h3,h4,h5,h6,h7,hz,Za,if_true]
theorem fG{j:Int}(h1:fa st=some (rs,s1))(h2:ce s1 rs=some [.int j])(h3:-(2 ^ 62)<=j/\j<2 ^ 62):jD fa st=some (rng 0 j.toNat,s1):=by
 simp only[jD,h1,h2,Za,vt];rw[if_pos h3]
theorem ci{r':Rs}{lo hi:Option Int}{b:D->Option Int->Option Int->Option Rz}(h1:fe st=some (r,s1))(h2:fl s1=some (lo,s2))(h3:fh s2=some (hi,s3))(h4:cont s3 r=some d)(h5:b d lo hi=some z)(hz:mk z=r':=by rfl):fSl b fe fl fh st=some (r',s3):=by
 simp only[fSl,h1,h2,h3,h4,h5,hz,Za]
theorem uE{f:FT}{fa fb:FE}{a:Option (Rs×En)}(h:f st=some (true,s))(h2:fa s=a):fIf f fa fb st=a:=by simp only[fIf,h,Za,if_true];exact h2
theorem uF{f:FT}{fa fb:FE}{a:Option (Rs×En)}(h:f st=some (false,s))(h2:fb s=a):fIf f fa fb st=a:=by simp only[fIf,h,Za,Zd,if_false];exact h2
theorem uG(h1:fe st=some (r,s1))(h2:esc r s1=some (.lst ds,s2)):fIA fe st=some (ds,s2):=by
 have:fIL fe st=some (ds,s2):=by simp only[fIL,h1,h2,Za,D.its]
 unfold fIA;rw[this]
theorem xj(h1:fe st=some (r,s1))(h2:esc r s1=some (.tup ds,s2)):fIA fe st=some (ds,s2):=by
 have e1:fIL fe st=none:=by simp only[fIL,h1,h2,Za,D.its,Option.bind_none]
 have e2:fIT fe st=some (ds,s2):=by simp only[fIT,h1,h2,Za,D.itt]
 unfold fIA;rw[e1,e2]
theorem sU(h1:fe st=some (r,s1))(h2:cont s1 r=some (.tup ds)):n8 fe st=some (ds.reverse,s1):=by
 simp only[n8,h1,h2,Za,D.itt]
theorem vX{r':Rs}(h1:fe st=some (r,s1))(h2:cont s1 r=some d)(h3:xb d=some z)(hz:mk z=r':=by rfl):sT fe st=some (r',s1):=by
 simp only[sT,h1,h2,h3,hz,Za]
theorem eS(h1:fa st=some (rs,s1))(h2:b6 rs s1=some (ds,s2))(h3:ds.length<=1000000):lA fa st=some (.d (.tup ds),s2):=by
 simp only[lA,h1,h2,Za];rw[if_pos h3]
end
theorem je{fg:FG}{B:FS}(all:List D)(I:List D->En->Prop)(step:∀(gone:List D)(x:D)(rest:List D)(st:En),all=gone++x::rest->I gone st->∃s1 s2,fg x st=some s1/\B s1=some (.nx s2)/\I (gone++[x]) s2) :
  ∀(items gone:List D)(st:En),all=gone++items->I gone st->∃sf,fS fg B items st=some (.nx sf)/\I all sf
 | [],gone,st,ha,h=>⟨st,rfl,by rw[ha,Xe];exact h⟩
 | x::r,gone,st,ha,h=>by
  obtain⟨s1,s2,e1,e2,e3⟩:=step gone x r st ha h;obtain⟨sf,e4,e5⟩:=je all I step r (gone++[x]) s2 (by rw[Xg];exact ha) e3
  refine⟨sf,?_,e5⟩;simp only[fS,e1,e2,Za];exact e4
theorem j6{fg:FG}{fc:FT}{fe:FE}{k:Nat}(all:List D)(I:List D->List D->En->Prop)(step:∀(gone:List D)(x:D)(rest pre:List D)(sb:En),all=gone++x::rest->I gone pre sb->∃s1 s2 y s3 d s4,fg x sb=some s1/\fc s1=some (true,s2)/\fe s2=some (y,s3)/\esc y s3=some (d,s4)/\I (gone++[x]) (pre++[d]) (rst k s4)) :
  ∀(items gone pre:List D)(sb:En),all=gone++items->I gone pre sb->∃ds sf,cY fg fc fe k items sb=some (ds,sf)/\I all (pre++ds) sf
 | [],gone,pre,sb,ha,h=>⟨[],sb,rfl,by rw[ha,Xe,Xe];exact h⟩
 | x::r,gone,pre,sb,ha,h=>by
  obtain⟨s1,s2,y,s3,d,s4,e1,e2,e3,e4,e5⟩:=step gone x r pre sb ha h;obtain⟨ds,sf,e6,e8⟩:=j6 all I step r (gone++[x]) (pre++[d]) (rst k s4) (by rw[Xg];exact ha) e5
  refine⟨d::ds,sf,?_,by rw[Xg]at e8;exact e8⟩
  simp only[cY,e1,e2,e3,e4,Za,if_true,e6]
end VF
namespace VF
open PySem L2
section
variable {X:Cx}{K:PySem.W.Frag}{Y:AS}{H:Hp}{s:Shared}{pins:List (Addr×Obj)}{σ:St}
theorem og:∀{vs:List V}{us:List Value},Vals vs us->∀(i:Nat) u,us[i]?=some u->∃v,vs[i]?=some v/\RelV v u
 | _,_,.nil,i,u,h=>by simp at h
 | v::_,w::_,.cons r rs,0,u,h=>by
  have e:w=u:=by simpa using h
  exact⟨v,rfl,e ▸ r⟩
 | _::_,_::_,.cons r rs,i+1,u,h=>by
  obtain⟨v,h1,h2⟩:=og rs i u (by simpa using h)
  exact⟨v,by simpa using h1,h2⟩
end
end VF
namespace VF
open PySem L2 PySem.Spec
noncomputable abbrev TCh:=V->St->Hp->VK->Prop
noncomputable def mV(r:R2)(te:TE):TCh:=fun y σ H Q=>te σ H fun w H1=>r y w H1 Q
noncomputable def mW(r:R2)(te:TE)(rest:TCh):TCh:=fun y σ H Q=>te σ H fun w H1=>r y w H1 fun z H2=>∃k,z=.bl k/\(if k=true then rest w σ H2 Q else Q (.bl false) H2)
noncomputable def vY(ta:TE)(rest:TCh):TE:=fun σ H Q=>ta σ H fun x H1=>rest x σ H1 Q
section
variable {X:Cx}{a b e:Expr}{ta te:TE}
noncomputable def PCh(X:Cx)(ops:List CmpOp)(es:List Expr)(t:TCh):Prop:=∀(pins:List (Addr×Obj))(s:Shared)(σ:St)(H:Hp)(y:V)(u:Value)(Q:VK)(pos:Pos),Inv X pins σ H s->RelV y u->t y σ H Q ->
 wpAny (model X.prog X.w) X.A (compareChain pos u ops (evalEach es X.env)) (EP X pins σ Q) X.xe s
noncomputable def sV(X:Cx)(ops:List CmpOp)(es:List Expr)(t:TCh):Prop:=∀(pins:List (Addr×Obj))(s:Shared)(σ:St)(H:Hp)(y:V)(u:Value)(Q:Bool->Hp->Prop)(pos:Pos),Inv X pins σ H s->RelV y u->t y σ H (fun x H'=>∃k,x=.bl k/\Q k H') ->
 wpAny (model X.prog X.w) X.A (testChain pos u ops (evalEach es X.env)) (TP X pins σ Q) X.xe s
theorem lR{op:CmpOp}{r:R2}(ho:OpR X (compareOp op) r)(he:PE X e te):PCh X [op] [e] (mV r te):=by
 intro pins s σ H y u Q pos I ru h;exact PyProof.Rows.chain_last (thn (he pins s σ H _ I h) fun w s1 ⟨z,H1,I1,r1,q1⟩=>ho pins s1 σ H1 y z u w Q I1 ru r1 q1)
theorem dE{op op':CmpOp}{ops:List CmpOp}{es:List Expr}{e':Expr}{r:R2}{t:TCh}(ho:OpR X (compareOp op) r)(he:PE X e te)(ht:PCh X (op'::ops) (e'::es) t):PCh X (op::op'::ops) (e::e'::es) (mW r te t):=by
 intro pins s σ H y u Q pos I ru h;refine PyProof.Rows.chain_link (thn (he pins s σ H _ I h) fun w s1 ⟨z,H1,I1,r1,q1⟩=>thn (ho pins s1 σ H1 y z u w _ I1 ru r1 q1) fun d s3 zz9=>?_);obtain⟨z',H3,I3,r3,k,e,q3⟩:=zz9;subst e;cases r3;refine wpAny_truthy_bool ?_;cases k with
 | false=>exact PyProof.Rows.ite_ff ⟨.bl false,H3,I3,rfl,q3⟩
 | true=>exact PyProof.Rows.ite_tt (ht pins s3 σ H3 z w Q pos I3 r1 q3)
theorem j7{op:CmpOp}{r:R2}(ho:OpR X (compareOp op) r)(he:PE X e te):sV X [op] [e] (mV r te):=by
 intro pins s σ H y u Q pos I ru h;refine PyProof.Rows.test_last (thn (he pins s σ H _ I h) fun w s1 ⟨z,H1,I1,r1,q1⟩=>thn (ho pins s1 σ H1 y z u w _ I1 ru r1 q1) fun d s3 zz9=>?_);obtain⟨z',H3,I3,r3,k,e,q3⟩:=zz9;subst e;cases r3;exact wpAny_truthy_bool ⟨H3,I3,q3⟩
theorem cL{op op':CmpOp}{ops:List CmpOp}{es:List Expr}{e':Expr}{r:R2}{t:TCh}(ho:OpR X (compareOp op) r)(he:PE X e te)(ht:sV X (op'::ops) (e'::es) t):sV X (op::op'::ops) (e::e'::es) (mW r te t):=by
 intro pins s σ H y u Q pos I ru h;refine PyProof.Rows.test_link (thn (he pins s σ H _ I h) fun w s1 ⟨z,H1,I1,r1,q1⟩=>thn (ho pins s1 σ H1 y z u w _ I1 ru r1 q1) fun d s3 zz9=>?_);obtain⟨z',H3,I3,r3,k,e,q3⟩:=zz9;subst e;cases r3;refine wpAny_truthy_bool ?_;cases k with
 | false =>
  obtain⟨k',e',q'⟩:=q3;cases e';exact PyProof.Rows.ite_ff ⟨H3,I3,q'⟩
 | true=>exact PyProof.Rows.ite_tt (ht pins s3 σ H3 z w Q pos I3 r1 q3)
theorem qJ{op op':CmpOp}{ops:List CmpOp}{es:List Expr}{e':Expr}{pos:Pos}{t:TCh}(ha:PE X a ta)(ht:PCh X (op::op'::ops) (e::e'::es) t)(hm:lastMarks (op::op'::ops) (e::e'::es)=false:=by with_unfolding_all rfl):PE X (.Compare a (op::op'::ops) (e::e'::es) pos) (vY ta t):=by
 intro pins s σ H Q I h;exact PyProof.Rows.Compare_chain (thn (ha pins s σ H _ I h) fun v s1 ⟨x,H1,I1,r1,q1⟩=>ht pins s1 σ H1 x v Q pos I1 r1 q1) hm
theorem qK{op op':CmpOp}{ops:List CmpOp}{es:List Expr}{e':Expr}{pos:Pos}{t:TCh}(ha:PE X a ta)(ht:sV X (op::op'::ops) (e::e'::es) t)(hm:lastMarks (op::op'::ops) (e::e'::es)=false:=by with_unfolding_all rfl):PT X (.Compare a (op::op'::ops) (e::e'::es) pos) (pN (vY ta t)):=by
 intro pins s σ H Q I h;exact PyProof.Rows.isTrue_chain (thn (ha pins s σ H _ I h) fun v s1 ⟨x,H1,I1,r1,q1⟩=>ht pins s1 σ H1 x v Q pos I1 r1 q1) hm
end
section
variable {K:PySem.W.Frag}{Y O O' Z:AS}{H H':Hp}{v:V}{d:D}{st st':En}{σ:St}
noncomputable abbrev FCh:=Rs->FE
noncomputable def sW(K:PySem.W.Frag)(t:TCh)(f:FCh):Prop:=∀(st:En)(σ:St)(H:Hp)(O Z:AS)(Q:VK)(y:V)(ry:Rs),ER K st σ H O Z->RVal K Z st σ H O y ry.nf->∀r st',f ry st=some (r,st') ->
 (∀v H' O',Ext O H O' H'->Kp st st'->ER K st' σ H' O' Z->RVal K Z st' σ H' O' v r->Fsh H v r->Q v H')->t y σ H Q
noncomputable def cJ(b:D->D->Option Rz)(fe:FE):FCh:=fun ry st=>(fe st).bind fun x=>(cont x.2 ry).bind fun d1=>(cont x.2 x.1).bind fun d2=>(b d1 d2).bind fun z=>some (mk z,x.2)
theorem gL{r:R2}{b:D->D->Option Rz}{te:TE}{fe:FE}(hr:RdOp K r b)(he:RdE K te fe):sW K (mV r te) (cJ b fe):=by
 intro st σ H O Z Q y ry E rv0 r0 st' h q;refine bsP h fun r2 st2 e2 h=>?_;refine bsO h fun d1 e3 h=>?_;refine bsO h fun d2 e4 h=>?_;refine bsO h fun z e5 h=>?_;cases h;refine he st σ H O Z _ E r2 st2 e2 fun v2 H2 O2 x2 k2 E2 rv2 w2=>?_;have b1:=(rv0.ext x2 k2).ba E2 (by rw[cW];exact e3)
 refine hr (U O2 Z) H2 y v2 d1 d2 z _ E2.liv b1 (rv2.ba E2 e4) e5 fun v H3 s hres=>?_;obtain⟨E3,rv3⟩:=hres.rv E2 s;exact q v H3 O2 (x2.trans (Same.ext s)) k2 E3 rv3 (hres.fsh.back x2)
noncomputable def bi(b:D->D->Option Rz)(fe:FE)(rest:FCh):FCh:=fun ry st=>(fe st).bind fun x=>(cont x.2 ry).bind fun d1=>(cont x.2 x.1).bind fun d2=>(b d1 d2).bind fun z=>match z with
 | (.bl true,false)=>rest x.1 x.2
 | (.bl false,false)=>some (.d (.bl false),x.2)
 | _=>none
theorem bN{r:R2}{b:D->D->Option Rz}{te:TE}{fe:FE}{t:TCh}{f:FCh}(hr:RdOp K r b)(he:RdE K te fe)(ht:sW K t f):sW K (mW r te t) (bi b fe f):=by
 intro st σ H O Z Q y ry E rv0 r0 st' h q;refine bsP h fun r2 st2 e2 h=>?_;refine bsO h fun d1 e3 h=>?_;refine bsO h fun d2 e4 h=>?_;refine bsO h fun z e5 h=>?_;refine he st σ H O Z _ E r2 st2 e2 fun v2 H2 O2 x2 k2 E2 rv2 w2=>?_;have b1:=(rv0.ext x2 k2).ba E2 (by rw[cW];exact e3)
 refine hr (U O2 Z) H2 y v2 d1 d2 z _ E2.liv b1 (rv2.ba E2 e4) e5 fun v H3 s hres=>?_;obtain⟨dz,fr⟩:=z;cases dz with
 | bl c =>
  cases fr with
  | true=>cases c<;>cases h
  | false =>
   have ev:v=.bl c:=DA.ba (show DA K (U O2 Z) H3 v (.bl c) from hres);refine⟨c,ev,?_⟩;have E3:=E2.same s;have x3:Ext O2 H2 O2 H3:=Same.ext s;cases c with
   | false =>
    rw[if_neg (by decide)]
    cases h;exact q _ H3 O2 (x2.trans x3) k2 E3 (.bl false) True.intro
   | true =>
    rw[if_pos rfl];exact ht st2 σ H3 O2 Z Q v2 r2 E3 (rv2.nf.ext x3 (Kp.refl _)) r0 st' h fun w H4 O4 x4 k4 E4 rv4 w4=>q w H4 O4 ((x2.trans x3).trans x4) (k2.trans k4) E4 rv4 (w4.back (x2.trans x3))
 | _=>cases fr<;>cases h
noncomputable def kM(fa:FE)(f:FCh):FE:=fun st=>(fa st).bind fun x=>f x.1 x.2
theorem kN{ta:TE}{fa:FE}{t:TCh}{f:FCh}(ha:RdE K ta fa)(ht:sW K t f):RdE K (vY ta t) (kM fa f):=by
 intro st σ H O Z Q E r0 st' h q;refine bsP h fun r1 st1 e1 h=>?_;refine ha st σ H O Z _ E r1 st1 e1 fun v1 H1 O1 x1 k1 E1 rv1 w1=>?_;exact ht st1 σ H1 O1 Z Q v1 r1 E1 rv1.nf r0 st' h fun w H4 O4 x4 k4 E4 rv4 w4=>q w H4 O4 (x1.trans x4) (k1.trans k4) E4 rv4 (w4.back x1)
noncomputable def jf:FS:=fun _=>none
end
end VF
namespace VF
open PySem L2 PySem.Spec
section
variable {X:Cx}{K:PySem.W.Frag}
noncomputable def qL(K:PySem.W.Frag):R2:=fun x y H Q=>∃a b ys,x=.ref a/\y=.ref b/\SqT K H a []/\SqT K H b ys/\Q (.ref b) H
theorem sX(h:X.K=K):OpR X (binaryOp .Add) (qL K):=by
 intro pins s σ H x y v u Q I rx ry hh;obtain⟨a,b,ys,rfl,rfl,ha,hb,q⟩:=hh;cases rx;cases ry;subst h;obtain⟨its,r1,p1,_⟩:=I.tuple ha;obtain⟨its2,r2,p2,_⟩:=I.tuple hb;cases r1;obtain⟨⟨cls,dd,data,sl⟩,ho,hc,n,hd⟩:=id p1;obtain⟨⟨cls2,dd2,data2,sl2⟩,ho2,hc2,n2,hd2⟩:=id p2;simp only at hc hd hc2 hd2;subst hc hd hc2 hd2;exact concat_meets ⟨_,ho,rfl⟩ ⟨_,ho2,rfl⟩ noFill_tuple_add seq_tuple_add PySem.F.slot_tuple_add PySem.F.entry_tuple_add (PySem.F.args_tuple_add_2 _ _)
   (PyProof.Rows.tuple_addW0 a b _ _ n n2 dd dd2 sl sl2 rfl) ⟨ho,ho2,.ref b,H,I,rfl,q⟩
noncomputable def uH:D->D->Option Rz
 | .tup [],.tup b=>some (.tup b,false)
 | _,_=>none
theorem sY:RdOp K (qL K) uH:=by
 intro Y H x y d1 d2 z Q lv b1 b2 e q;cases d1 with
 | tup a =>
  cases a with
  | cons a0 a=>cases e
  | nil =>
   cases d2 with
   | tup b =>
    cases e;obtain⟨p,xs,rfl,hp,el⟩:=b1;obtain⟨p2,ys,rfl,hp2,el2⟩:=b2;obtain rfl:=el.unnil;exact⟨p,p2,ys,rfl,rfl,hp.sq,hp2.sq,q _ H (Same.refl H) (.tup hp2 el2.1 el2.2)⟩
   | _=>cases e
 | _=>cases e
noncomputable def bH:=orD bC uH
noncomputable def uI(K:PySem.W.Frag):R2:=fun x y H Q=>qy K x y H Q∨qL K x y H Q
theorem bR(h:X.K=K):OpR X (binaryOp .Add) (uI K):=(aG h).or (sX h)
theorem bS:RdOp K (uI K) bH:=ro_addA.or sY
noncomputable def vZ(K:PySem.W.Frag):V->Option Int->Option Int->Hp->VK->Prop:=fun x lo hi H Q=>∃a xs,x=.ref a/\SqT K H a xs/\(HT.sIx xs.length 0 lo=0/\HT.sIx xs.length xs.length hi=xs.length)/\Q (.ref a) H
end
end VF
namespace HT
open PySem PyProof.Rows
section
variable {prog:Program}{w:World}{A:Around}{E:Value->Shared->Prop}{s:Shared}
theorem getItem_tuple_all{t sl:Addr}{items:Array Value}{vl vu:Value}{lo hi:Option Int}{Q:Value->Shared->Prop}(ht:IsTup s.heap t items)(hs:s.heap.IsSliceOf sl vl vu .none)(pl:IsPart vl lo)(pu:IsPart vu hi)
  (hw:sIx items.size 0 lo=0/\sIx items.size items.size hi=items.size)(h:Q (.ref t) s):wpAny (model prog w) A (getItem (.ref t) (.ref sl)) Q E s:=by
 obtain⟨os,hos,hcs,hds⟩:=id hs;have hTs:s.TypeIs (.ref sl) "slice":=⟨os,hos,hcs⟩;unfold getItem
 try with_reducible refine wpAny_holding ?_
 first|refine wpAny_bind (wpAny_pure ?_)|skip
 refine wpAny_bind (wpAny_sequenceKey ht.typeIs (by decide) ?_)
 refine wpAny_bind (wpAny_callSpecial?_slot (name:=Str.ofString "__getitem__") ht.typeIs PyProof.Rows.slot_tuple_getitem
  (wpAny_call_entry PyProof.Rows.slot_tuple_getitem ht.typeIs entry_tuple_getitem ?_ (args_tuple_getitem _ _)))
 show wpAny _ _ (Builtin.Tuple.tupleItemsOf (.ref t) >>= _) _ _ s;refine wpAny_bind (tupleItemsOf_ ht ?_);refine wpAny_bind (wpAny_typeOf hTs ?_);rw[if_pos (by decide)]
 refine wpAny_bind (dD hs pl pu ?_);have hyes:(((sIx items.size 0 lo:Nat):Int) == 0&&(1:Int) == 1&&(sIx items.size items.size hi-sIx items.size 0 lo) == items.size)=true:=by
  rw[hw.1,hw.2];simp
 show wpAny _ _ (if (((sIx items.size 0 lo:Nat):Int) == 0&&(1:Int) == 1&&(sIx items.size items.size hi-sIx items.size 0 lo) == items.size)=true then _ else _) _ _ s;rw[if_pos hyes];unfold Builtin.Tuple.tupleIsExact;refine wpAny_bind (wpAny_bind (wpAny_typeOf ht.typeIs (wpAny_pure ?_)));rw[if_pos (by decide)]
 exact wpAny_bind (wpAny_rule (wpAny_pure ⟨_,rfl,wpAny_pure h⟩))
end
end HT
namespace VF
open PySem L2
section
variable {X:Cx}{K:PySem.W.Frag}
theorem qM(h:X.K=K):SlR X (vZ K):=by
 intro pins s σ H x v vl vu lo hi sl Q I rx hs pl pu hh;obtain⟨a,xs,rfl,hx,hw,q⟩:=hh;cases rx;subst h;obtain⟨its,r,ht,hz⟩:=I.tuple hx;have hlen:its.toArray.size=xs.length:=by rw[Ya];exact r.length.symm
 refine⟨"tuple",_,PyProof.Rows.slot_tuple_getitem.lookup,ht.typeIs,?_⟩;exact HT.getItem_tuple_all ht hs pl pu (by rw[hlen];exact hw) ⟨.ref a,H,I,rfl,q⟩
noncomputable def sZ:D->Option Int->Option Int->Option Rz
 | .tup ds,lo,hi=>if HT.sIx ds.length 0 lo=0/\HT.sIx ds.length ds.length hi=ds.length then some (.tup ds,false) else none
 | _,_,_=>none
theorem xk:RdSl K (vZ K) sZ:=by
 intro Y H x lo hi d1 z Q lv b1 e q;cases d1 with
 | tup a =>
  obtain⟨c,e⟩:=aE e;cases e;obtain⟨p,xs,rfl,hp,el⟩:=b1;exact⟨p,xs,rfl,hp.sq,by rw[el.1];exact c,q _ H (Same.refl H) (.tup hp el.1 el.2)⟩
 | _=>cases e
noncomputable def bW:=orS bSl sZ
noncomputable def xp(K:PySem.W.Frag):V->Option Int->Option Int->Hp->VK->Prop:=fun x lo hi H Q=>vP K x lo hi H Q∨vZ K x lo hi H Q
theorem bz(h:X.K=K):SlR X (xp K):=SlR.or (mM h) (qM h)
theorem bo:RdSl K (xp K) bW:=RdSl.or kJ xk
theorem mX(ds:List D)(lo hi:Option Int):bW (.tup ds) lo hi=some (.tup (cutD ds lo hi),false):=by
 have e1:sF (.tup ds) lo hi=none:=rfl;have e3:sG (.tup ds) lo hi=none:=rfl;by_cases c:HT.sIx ds.length 0 lo=0/\HT.sIx ds.length ds.length hi=ds.length
 ·have e2:kF (.tup ds) lo hi=none:=by simp only[kF,if_pos c]
  have e4:sZ (.tup ds) lo hi=some (.tup ds,false):=by simp only[sZ,if_pos c]
  have e5:cutD ds lo hi=ds:=by
   unfold cutD;rw[c.1,c.2];simp
  unfold bW bSl orS;rw[e1,e2,e3,e4,e5]
 ·have e2:kF (.tup ds) lo hi=some (.tup (cutD ds lo hi),false):=by simp only[kF,if_neg c]
  unfold bW bSl orS;rw[e1,e2]
theorem s9{a b:List D}(h:a.length+b.length<=100000):bH (.tup a) (.tup b)=some (.tup (a++b),false):=by
 have e1:lF (.tup a) (.tup b)=none:=rfl;have e2:lH (.tup a) (.tup b)=none:=rfl;have e3:qo (.tup a) (.tup b)=none:=rfl;cases a with
 | nil =>
  have e4:jX (.tup []) (.tup b)=none:=rfl;unfold bH bC orD;rw[e1,e2,e3,e4];rfl
 | cons x a =>
  have e4:jX (.tup (x::a)) (.tup b)=some (.tup (x::a++b),false):=by
   simp only[Wh]at h;cases b with
   | nil=>simp only[jX,Xe];rw[if_pos (by lia)]
   | cons y b =>
    simp only[Wh]at h;simp only[jX];rw[if_pos (by lia)]
  unfold bH bC orD;rw[e1,e2,e3,e4]
theorem qN{a b:List D}(h:a.length+b.length<=1000000):bH (.lst a) (.lst b)=some (.lst (a++b),true):=by
 have e1:lF (.lst a) (.lst b)=none:=rfl;have e2:lH (.lst a) (.lst b)=none:=rfl;have e3:qo (.lst a) (.lst b)=some (.lst (a++b),true):=by simp only[qo];rw[if_pos h]
 unfold bH bC orD;rw[e1,e2,e3]
theorem v0{ds:List D}{j:Nat}(h:j<=ds.length):cutD ds none (some (j:Int))=ds.take j:=by
 unfold cutD;rw[HT.sIx_none,HT.sIx_nat,Vh h];simp
theorem qO{ds:List D}{i:Nat}(h:i<=ds.length):cutD ds (some (i:Int)) none=ds.drop i:=by
 unfold cutD;rw[HT.sIx_none,HT.sIx_nat,Vh h,Qj];rw[Wc];lia
theorem tf{ds:List D}{i j:Nat}(h:i<=ds.length)(h':j<=ds.length):cutD ds (some (i:Int)) (some (j:Int))=(ds.drop i).take (j-i):=by
 unfold cutD;rw[HT.sIx_nat,HT.sIx_nat,Vh h,Vh h']
theorem oh{ds:List D}{j:Nat}:cutD ds none (some (j:Int))=ds.take j:=by
 unfold cutD;rw[HT.sIx_none,HT.sIx_nat];by_cases h:j<=ds.length
 ·rw[Vh h];simp
 ·rw[Nat.min_eq_right (by lia)];simp;rw[Qj (by lia)]
end
end VF
namespace VF
open PySem L2
section
variable {st s1:En}{rs:List Rs}{fa:FA}
theorem tj{xs ys:List D}(h:xs.length+ys.length<=1000000):iP (.lst xs) [.lst ys]=some (.non,.lst (xs++ys)):=by
 show(if xs.length+ys.length<=1000000 then some (D.non,D.lst (xs++ys)) else none)=_;rw[if_pos h]
end
end VF
namespace VF22
open PySem PySem.Spec PyProof.Rows L2 VF
section
variable {X:Cx}{K:PySem.W.Frag}
@[irreducible] def PAi(X:Cx)(es:List Expr)(t:TA):Prop:=PA X es t
theorem oi:PAi X [] km:=by unfold PAi;exact ag
theorem fV{e:Expr}{es:List Expr}{te:TE}{t:TA}(ha:PE X e te)(hr:PAi X es t)(h:noStar e=true):PAi X (e::es) (cE te t):=by
 unfold PAi at *;exact aj ha hr h
theorem oj{es:List Expr}{t:TA}{pos:Pos}(h:PAi X es t):PE X (.List es pos) (rZ t):=by
 unfold PAi at h;exact dj h
@[irreducible] def PEi(X:Cx)(e:Expr)(t:TE):Prop:=PE X e t
theorem tm{es:List Expr}{t:TA}{pos:Pos}(h:PAi X es t):PEi X (.List es pos) (rZ t):=by
 unfold PEi;exact oj h
theorem v4{r:R2}{a b:Expr}{ta tb:TE}{pos:Pos}(hr:IxR X r)(ha:PEi X a ta)(hb:PE X b tb)(hs:nK b):PEi X (.Subscript a b pos) (tOp r ta tb):=by
 unfold PEi at *;exact aM hr ha hb hs
end
end VF22
namespace VF
open PySem L2 PySem.Spec PyProof.Rows
section
variable {X:Cx}{K:PySem.W.Frag}
noncomputable def qP(K:PySem.W.Frag):V->List V->Hp->VK->Prop:=fun x vs H Q=>∃(p:Addr)(ys:List Str)(b:Str),x=.ref p/\vs=[.str b]/\SqL K H p (ys.map V.str)/\b∈ys/\Q (.int (ys.idxOf b:Nat)) H
theorem qQ(h:X.K=K):MtR X "list.index" (qP K):=by
 intro pins s σ H x vs v us Q I rx rv hh;obtain⟨p,ys,b,rfl,rfl,sq,hb,q⟩:=hh;subst h;cases rx;obtain⟨u,rfl,ru⟩:=vals1 rv;obtain⟨t,rfl⟩:=ru;obtain⟨its,r,pl,hz⟩:=I.list sq;obtain⟨o,n,e,hc,hd,hs⟩:=id pl;have hlen:its.length=ys.length:=by have:=r.length;simpa using this.symm
 have hj:ys.idxOf b<ys.length:=List.idxOf_lt_length_iff.mpr hb;obtain⟨cls,dd,data,sl⟩:=o;simp only at hc hs;subst hc hs;have itAt:∀(i:Nat) v,its[i]?=some v->∃y t',ys[i]?=some y/\v=.str y t':=fun i v hv=>by
  obtain⟨w,e1,rw'⟩:=og r i v hv;rw[Qc]at e1;obtain⟨y,e2,rfl⟩:=We.mp e1;obtain⟨t',rfl⟩:=rw';exact⟨y,t',e2,rfl⟩
 have hyl:ys.length<=2 ^ 24:=by rw[Xb]at hz;exact hz
 let is:Value->Bool:=fun v=>match v with
  | .str y _=>y == b
  | _=>false
 refine call_meets PySem.F.slot_list_index ⟨_,e,rfl⟩ PySem.F.entry_list_index (PySem.F.args_list_index_2 _ _)
  (PySem.SeqAt.list_indexAt p its.toArray n dd sl (.str b t) is (ys.idxOf b) (by simpa[hlen]using hj) (by lia) ?_ ?_) ⟨e,fun y hy=>?_,?_⟩
 ·have hv:its[ys.idxOf b]?=some its[ys.idxOf b]:=Va (by lia)
  obtain⟨y,t',e1,e2⟩:=itAt _ _ hv;show is its[ys.idxOf b]=true;rw[e2];have:y=b:=by
   rw[Va hj]at e1;have:=Option.some.inj e1;rw[← this];exact List.getElem_idxOf hj
  show(y == b)=true;rw[this];simp
 ·intro m hm hlt;have hm':m<its.length:=by simpa using hm
  have hv:its[m]?=some its[m]:=Va hm';obtain⟨y,t',e1,e2⟩:=itAt _ _ hv;show is its[m]=false;rw[e2];show(y == b)=false;have hmy:m<ys.length:=by lia
  have:=List.not_of_lt_findIdx (p:=(· == b)) (xs:=ys) (i:=m) hlt;rw[Va hmy]at e1;rw[← Option.some.inj e1];simpa using this
 ·obtain⟨i,hi⟩:=Yg (show y∈its by simpa using hy)
  obtain⟨z,t',_,rfl⟩:=itAt i y hi;exact PySem.SeqAt.EqAt.str_str _ _ _ _
 ·exact⟨.int _,H,I.tok _,⟨_,rfl⟩,q⟩
noncomputable def bIndex:D->List D->Option Rz
 | .lst ds,[.str b]=>(eK ds).bind fun ys=>if b∈ys then some (.int (ys.idxOf b:Nat),false) else none
 | _,_=>none
theorem qR:sI K (qP K) bIndex:=by
 intro Y H x xs d ds z Q lv b1 bs e q;cases d with
 | lst es =>
  cases bs with
  | nil=>cases e
  | @cons v vs d ds b2 bs =>
   cases bs with
   | cons _ _=>cases d<;>cases e
   | nil =>
    cases d with
    | str b =>
     refine bsO e fun ys e1 e=>?_;obtain⟨c,e⟩:=aE e;cases e;obtain⟨p,ws,rfl,hp,el⟩:=b1;obtain rfl:=g9 el e1;exact⟨p,ys,b,rfl,by rw[show v=V.str b from b2],.inl (.inl hp),c,q _ H (Same.refl H) (.int _)⟩
    | _=>cases e
 | _=>cases e
end
end VF
namespace VF
open PySem PySem.Spec PyProof.Rows L2
theorem fsc{N P:List Str}{sc:Scope}(h:N.Nodup/\(∀x∈P,sc.names.lookup x=some .local∨sc.names.lookup x=some .cell)/\∀y∈sc.names,y.2≠.free)(a:sc.kind=.function:=by rfl)(b:sc.isCoroutine=false:=by rfl)(c:sc.isGenerator=false:=by rfl)(d:N.take P.length=P:=by rfl):FnScope N P sc:=⟨a,b,c,h.1,d,h.2.1,h.2.2⟩
structure FH(K:PySem.W.Frag)(x:Str)(st:Stmt):Prop where
 ex:∃f fd,Fun K x x st f fd/\PySem.W.nsIn K mainGlobals x=some (some (.ref f))
theorem fh{K:PySem.W.Frag}{x:Str}{st:Stmt}{f:Addr}{oc:Value}{od an:Option Addr}{osl:Array (Option Value)}{kV doc pm cdv ct:Value}(a:PySem.W.nsIn K mainGlobals x=some (some (.ref f)))
  (l:K.lookup f=some ⟨oc,od,.func (PySem.W.fnOf x x (cF st) (bK st) (ak st) .none kV doc pm an cdv ct),osl⟩)(c:PySem.W.codeIn K cdv x=true)(k:PySem.W.keepIn K (.ref f)=true):FH K x st:=⟨f,_,vi l c k,a⟩
noncomputable def Bn(x:Str)(st:Stmt)(ps:List Str):Prop:=∀(kV doc pm:Value)(an:Option Addr)(cdv ct:Value)(us:List Value),us.length=ps.length->bindArgs (PySem.W.fnOf x x (cF st) (bK st) (ak st) .none kV doc pm an cdv ct) ⟨us,[]⟩=pure (ps.zip us)
theorem arS{n:Nat}{P:List Value->Prop}{us:List Value}(hl:us.length=n+1)(h:∀a r,r.length=n->P (a::r)):P us:=by
 cases us with
 | nil=>cases hl
 | cons a r=>exact h a r (Nat.succ.inj hl)
theorem ar1{P:List Value->Prop}(h:∀a,P [a])(us:List Value)(hl:us.length=1):P us:=arS hl fun a r hr=>by
 rw[List.eq_nil_of_length_eq_zero hr];exact h a
theorem ar2{P:List Value->Prop}(h:∀a b,P [a,b])(us:List Value)(hl:us.length=2):P us:=arS hl fun a r hr=>ar1 (P:=fun r=>P (a::r)) (h a) r hr
theorem ar3{P:List Value->Prop}(h:∀a b c,P [a,b,c])(us:List Value)(hl:us.length=3):P us:=arS hl fun a r hr=>ar2 (P:=fun r=>P (a::r)) (h a) r hr
theorem ar4{P:List Value->Prop}(h:∀a b c d,P [a,b,c,d])(us:List Value)(hl:us.length=4):P us:=arS hl fun a r hr=>ar3 (P:=fun r=>P (a::r)) (h a) r hr
theorem ar5{P:List Value->Prop}(h:∀a b c d e,P [a,b,c,d,e])(us:List Value)(hl:us.length=5):P us:=arS hl fun a r hr=>ar4 (P:=fun r=>P (a::r)) (h a) r hr
section
variable {P:Program}{w:World}{K:PySem.W.Frag}{mg:Str->Option Value}{base h:Heap}{x:Str}{st:Stmt}{N ps:List Str}{k:Nat}{F:FS}
noncomputable abbrev Bd'(P:Program)(w:World)(K:PySem.W.Frag)(mg:Str->Option Value)(base:Heap)(x:Str)(st:Stmt)(N:List Str)(k:Nat)(F:FS):Prop :=
 ∀{f:Addr}{cdv:Value}{A:Around}{outer:List Env}{s:Shared}{H:Hp}{E:XK},Room k (A.deeper (envOfC x (ak st) s.heap.objs.size f cdv))->∃t,PSs (d8 CX0 P w K mg base N x (ak st) f cdv A outer s H E).nox (bK st) t/\RdS K t F
theorem okV{f:Addr}{fd:FuncData}(F':Fun K x x st f fd)(S:FnScope N ps (ak st))(hB:Bd' P w K mg base x st N k F):FnOk P w K mg base CX0 (k+1) f fd ps (spV K (bu F N.length ps.length)):=by
 refine F'.ok S (fun vs H Q E h=>sy h) fun cdv A outer s H vs Q E hr h=>?_;obtain⟨t,h1,h2⟩:=hB hr;exact⟨t,h1,nS h2 h⟩
theorem FH.cal(h':FH K x st)(X:K.In h)(G:h.Ns mainGlobals mg)(S:FnScope N ps (ak st))(hb:Bn x st ps)(hB:Bd' P w K mg base x st N k F):Cal P w K mg base x (k+1) ps (spV K (bu F N.length ps.length)):=by
 obtain⟨f,fd,F',a⟩:=h'.ex;exact⟨f,fd,okV F' S hB,PySem.W.mg_of X G a,F'.kp,F'.binds hb⟩
theorem FH.calI(h':FH K x st)(X:K.In h)(G:h.Ns mainGlobals mg)(S:FnScope N ps (ak st))(hb:Bn x st ps)(hB:Bd' P w K mg base x st N k F):Cal P w K mg base x (k+1) ps (g7 K (bV F N.length ps.length)):=by
 obtain⟨f,fd,F',a⟩:=h'.ex;refine⟨f,fd,F'.ok S (fun vs H Q E h=>wM h) fun cdv A outer s H vs Q E hr h=>?_,PySem.W.mg_of X G a,F'.kp,F'.binds hb⟩;obtain⟨t,h1,h2⟩:=hB hr;exact⟨t,h1,o3 h2 h⟩
theorem FH.calR{sp:Nat->Sp}(h':FH K x st)(X:K.In h)(G:h.Ns mainGlobals mg)(hb:Bn x st ps)(m:Nat)(h0:∀f fd,FnOk P w K mg base CX0 0 f fd ps (sp 0))(h1:∀n,n<=m->Cal P w K mg base x n ps (sp n)->∀f fd,Fun K x x st f fd->FnOk P w K mg base CX0 (n+1) f fd ps (sp (n+1))):∀n,n<=m+1->Cal P w K mg base x n ps (sp n):=by
 obtain⟨f,fd,F',a⟩:=h'.ex;intro n;induction n with
 | zero=>exact fun _=>⟨f,fd,h0 f fd,PySem.W.mg_of X G a,F'.kp,F'.binds hb⟩
 | succ n ih=>exact fun hn=>⟨f,fd,h1 n (Nat.le_of_succ_le_succ hn) (ih (Nat.le_of_succ_le hn)) f fd F',PySem.W.mg_of X G a,F'.kp,F'.binds hb⟩
theorem tq{f:Addr}{fd:FuncData}:FnOk P w K mg base CX0 0 f fd ps (spV K (cA 0)):=by
 have no:∀vs H Q E,¬ spV K (cA 0) vs H Q E:=fun vs H Q E h=>by
  obtain⟨Z,ds,z,el,lv,e,q⟩:=h;obtain⟨u,_,hd,_⟩:=j0 e;cases hd
 exact⟨fun vs H Q E h=>absurd h (no vs H Q E),fun A outer s H args us vs Q E _ _ _ _ h=>absurd h (no vs H Q E)⟩
theorem FH.alike{F:(List D->Option Rz)->FS}(h':FH K x st)(X:K.In h)(G:h.Ns mainGlobals mg)(S:FnScope N ps (ak st))(hb:Bn x st ps)(m:Nat)(hv:∀n u,Dp (n+1) u->bu (F (cA n)) N.length ps.length [u,u]=some (.bl true,false))
  (hB:∀n g,n<=m->Cal P w K mg base x n ps (spV K g)->Bd' P w K mg base x st N n (F g)):∀n,n<=m+1->Cal P w K mg base x n ps (spV K (cA n)) :=
 h'.calR X G hb m (fun _ _=>tq) fun n hn c f fd F'=>(okV F' S (hB n _ hn c)).imp fun vs H Q E hs=>by
  obtain⟨Z,ds,z,el,lv,e,q⟩:=hs;obtain⟨u,rfl,hd,rfl⟩:=j0 e;exact⟨Z,[u,u],(.bl true,false),el,lv,hv n u hd,q⟩
theorem FH.law{fa:Addr}(h':FH K "law" st)(X:K.In h)(G:h.Ns mainGlobals mg)(hfa:mg "law"=some (.ref fa))(S:FnScope N ["_law_script"] (ak st))(hb:Bn "law" st ["_law_script"])(lv:∀ns:List Int,bu F N.length 1 [.fl (ns.map D.int)]=some (.bl true,false))
  (hB:∀base:Heap,Bd' P w K mg base "law" st N k F):∃fd:FuncData,(∀(s:Shared)(v:Value),BindsTo s fd ⟨[v],[]⟩ [("_law_script",v)])/\∀base:Heap,K.In base->base.Ns mainGlobals mg->FnOk P w K mg base CX0 (k+1) fa fd ["_law_script"] (n9 K):=by
 obtain⟨f,fd,F',a⟩:=h'.ex;have e:=hfa.symm.trans (PySem.W.mg_of X G a);cases e;refine⟨fd,fun s v=>?_,fun base _ _=>(okV F' S (hB base)).imp fun vs H Q E h=>?_⟩
 ·obtain⟨oc,od,kV,doc,pm,an,cdv,ct,osl,rfl,lk,hcd⟩:=F'.ex;exact .of_eq (hb kV doc pm an cdv ct [v] rfl)
 ·obtain⟨a,ns,rfl,sq,_,q⟩:=h;refine⟨fun _=>False,[.fl (ns.map D.int)],(.bl true,false),El.one (.fl (vs:=ns.map V.int) ?_ (by simp) fun i v d h1 h2=>?_),fun p z=>z.elim,lv ns,fun v H' _ r=>?_⟩
  ·rcases sq with s|s
   ·exact .inl ⟨s,fun z=>z⟩
   ·exact .inr fun H'=>.inr s
  ·rw[Qc]at h1 h2;obtain⟨c,e1,rfl⟩:=We.mp h1;rw[e1]at h2;obtain rfl:=Option.some.inj h2;exact .int _
  ·obtain rfl:=(show v=V.bl true from DA.ba (show DA K (fun _=>False) H' v (.bl true) from r));exact q H'
end
theorem walkL{l:PySem.W.OpenLaw}{q:Program}{loose:List Str}{XP:(Str->Option Value)->Heap->Prop}{YP:World->Heap->Prop}{d:DefRec}{K:Params->PySem.W.Frag}{k:Nat}(hn:l.most=some 63)(hdf:d.params.defaults=[])(hr:Room k callerA)
  (hY:∀(w:World)(h:Heap),YP w h->(K w.params).In h)
  (F:∀(w:World)(mg:Str->Option Value)(fa:Addr)(h:Heap),(K w.params).In h->h.Ns mainGlobals mg->mg d.name=some (.ref fa) ->
   ∃fd:FuncData,(∀(s:Shared)(u:Value),BindsTo s fd ⟨[u],[]⟩ [("_law_script",u)])/\∀base:Heap,(K w.params).In base->base.Ns mainGlobals mg->FnOk l.prog w (K w.params) mg base CX0 k fa fd ["_law_script"] (n9 (K w.params))) :
  PySem.W.WalkO q loose XP YP l.row.toRowW d [] (fun f vs=>PySem.call f vs) :=
 L2.walk_of (n:=63) (k:=k) (x:="_law_script") (CX:=fun _=>CX0) (sp:=fun w=>n9 (K w.params)) hn (by decide) hdf hr hY F (fun _ _ a ns hl _ hS=>⟨a,ns,rfl,hS,hl,fun _=>rfl⟩) fun _ _ _ _ _ z=>z
end VF
namespace VX
open PySem PySem.Spec PyProof.Rows L2 VF
noncomputable abbrev iF(C t:Addr)(dx:Option Addr):Obj:={ cls:=.ref C,dict:=dx,data:=.fields #[.ref t,.none,.none,.none,.bool false,.none] }
inductive XO(H:Heap)(C N:Addr)(mr:List Value)(hd:Bool)(id:String):Prop
 | mk (a b:Str) (bs:List Value) (sn:List Str) (su:List Value) (x:Bool) (y:Option Bool) (z:Option Addr) (p0 p1 p2 p3 p5:Option Value) (e:H.get? C=some (excClassObj a b C N bs mr hd sn su x y z p0 p1 p2 p3 p5 id))
noncomputable def Fr0(Q:Shared->Prop)(X:Value->Shared->Prop)(r:Result)(s:Shared):Prop:=match r with
 | .ok (.ret v)=>v=.none/\Q s
 | .ok _=>False
 | .error x=>X x s
section
variable {P:Program}{W:World}{A:Around}{X:Value->Shared->Prop}{S:Shared}{C N:Addr}{mr mB:List Value}{hd:Bool}{B id ii:String}
theorem qS{us:List Value}{f:Addr}{o:Obj}{m:Str->Option Value}{Q:Fin->Shared->Prop}(c:XO S.heap C N mr hd id)(b:ExcBaseFacts B id ii mB)(tl:OwnTail S.heap mB mr)(n:S.heap.Ns N m)(i:m "__init__"=some (.ref f))(l:S.heap.get? f=some o)(fn:o.cls=.type "function")(few:us.length<=sizeLine)
  (q:∀H e t,(∀a u,S.heap.get? a=some u->H.get? a=some u)->S.heap.objs.size<=e->H.get? e=some (iF C t none)->codeAny (model P W) A (.call (.ref f) ⟨.ref e::us,[]⟩) (Fr0 (fun s=>Q (.done (.ret (.ref e))) s) X) { S with heap:=H }) :
  wpAny (model P W) A (Builtin.«type.__call__» ⟨.ref C::us,[]⟩) Q X S:=by
 obtain⟨_,_,_,_,_,_,_,_,_,_,_,_,_,e0⟩:=c;obtain⟨H,gs,dr,tk,os⟩:=S;have up:∀(x y:Obj) a u,H.get? a=some u->((H.push x).push y).get? a=some u:=fun x y a u z=>Heap.get?_push_of_some y (Heap.get?_push_of_some x z)
 wp_walk using wpAny_loadPart_at e0,wpAny_madeBy_exc e0
 refine codeAny_call_builtin_code (Code.quiet_builtin _ b.quiet) (wpAny_check_new_subT b tl e0 (codeAny_exc_new_subT b tl e0 ?_ few));generalize hT:(H.push { cls:=.type "tuple",data:=.seq us.toArray }).push (iF C H.objs.size none)=H2;have kp:∀a u,H.get? a=some u->H2.get? a=some u:=fun a u z=>hT ▸ up _ _ a u z;have eg:H2.get? (H.objs.size+1)=some (iF C H.objs.size none):=by
  rw[← hT,← Heap.size_push H { cls:=.type "tuple",data:=.seq us.toArray }];exact Heap.get?_push_size _ rfl
 have sb:∀{M:Model}{A:Around}{E:Value->Shared->Prop}{g:Array GenState}{d:Drawn}{t:Nat}{o:OsState}{R:Bool->Shared->Prop},R true ⟨H2,g,d,t,o⟩->wpAny M A (isSubtype (.ref C) (.ref C)) R E ⟨H2,g,d,t,o⟩:=fun r=>wpAny_isSubtype_exc (kp _ _ e0) (by rw[show(Value.ref C::mr).contains (.ref C)=true by simp];exact r)
 show wpAny _ _ _ _ _ _;unfold callSpecial? isInstance;unfold specialOf
 wp_walk using wpAny_loadPart_at eg,sb
 refine wpAny_typeLookup_tail (kp _ _ e0) (n.keeps kp) (tl.keeps kp) b.mroIs b.init.lookup ?_;rw[i];have ty:Shared.TypeIs ⟨H2,gs,dr,tk,os⟩ (.ref f) "function":=⟨o,kp _ _ l,fn⟩;dsimp only;unfold bindSpecial
 wp_walk
 refine codeAny_mono (q H2 _ _ kp (Nat.le_succ _) eg) fun r s z=>?_;cases r with
 | error x=>exact z
 | ok fl =>
  cases fl with
  | ret v =>
   obtain⟨rfl,z⟩:=z
   wp_walk
   exact z
  | _=>exact z.elim
theorem pc{us:List Value}{f:Addr}{o:Obj}{m:Str->Option Value}{Q:Value->Shared->Prop}(c:XO S.heap C N mr hd id)(b:ExcBaseFacts B id ii mB)(tl:OwnTail S.heap mB mr)(n:S.heap.Ns N m)(i:m "__init__"=some (.ref f))(l:S.heap.get? f=some o)(fn:o.cls=.type "function")(few:us.length<=sizeLine)
  (q:∀H e t,(∀a u,S.heap.get? a=some u->H.get? a=some u)->S.heap.objs.size<=e->H.get? e=some (iF C t none)->codeAny (model P W) (A.under (.builtin "type.__call__" ⟨.ref C::us,[]⟩)) (.call (.ref f) ⟨.ref e::us,[]⟩) (Fr0 (fun s=>Q (.ref e) s) X) { S with heap:=H }) :
  wpAny (model P W) A (call (.ref C) us) Q X S:=by
 have c':=c;obtain⟨_,_,_,_,_,_,_,_,_,_,_,_,_,e0⟩:=c';obtain⟨H,gs,dr,tk,os⟩:=S;have look:=tc_lookup;have bnd:=tc_bind (.ref C);have ty:Shared.TypeIs ⟨H,gs,dr,tk,os⟩ (.ref C) "type":=⟨_,e0,rfl⟩
 wp_walk
 refine codeAny_of_tree ?_;change wpAny _ _ (callAny (.ref C) ⟨us,[]⟩) _ _ _
 wp_walk using wpAny_loadPart_at e0
 refine⟨rfl,codeAny_call_builtin_at (Code.quiet_builtin _ (by decide +kernel)) entry_typeCall (wpAny_check_type_call_sub e0 ?_)⟩
 refine qS c b tl n i l fn few fun H1 e t k z ee=>?_;refine codeAny_mono (q H1 e t k z ee) fun r s w=>?_;cases r with
 | error x=>exact w
 | ok fl =>
  cases fl with
  | ret v=>exact w
  | _=>exact w.elim
theorem tu{M:Model}{en:Env}{ex:Sem Value}{R:Flow->Shared->Prop}(hb:mr.contains (.type "BaseException")=true)(hh:A.handled=none)
  (q:wpAny M A ex (fun v s=>∃e t dx,v=.ref e/\XO s.heap C N mr hd id/\s.heap.get? e=some (iF C t dx)/\X (.ref e) s) X S):wpAny M A (raiseStmt en (some ex) none) R X S:=by
 unfold raiseStmt;refine wpAny_bind (wpAny_mono q (fun v s z=>?_) fun _ _ z=>z);obtain⟨e,t,dx,rfl,⟨_,_,_,_,_,_,_,_,_,_,_,_,_,e0⟩,e1,x⟩:=z;obtain⟨H,gs,dr,tk,os⟩:=s;have sb:∀{M:Model}{A:Around}{E:Value->Shared->Prop}{g:Array GenState}{d:Drawn}{t:Nat}{o:OsState}{R:Bool->Shared->Prop},R true ⟨H,g,d,t,o⟩->wpAny M A (isSubtype (.ref C) (.type "BaseException")) R E ⟨H,g,d,t,o⟩:=fun r=>wpAny_isSubtype_exc e0 (by rw[show(Value.ref C::mr).contains (.type "BaseException")=true by rw[Qd,hb,Vf]];exact r)
 wp_walk using wpAny_loadPart_at e1,wpAny_loadPart_at e0,sb
 exact wpAny_raiseNew_none hh x
end
end VX
namespace VX
open PySem PySem.Spec PyProof.Rows L2 VF
section
variable {P:Program}{W:World}{A:Around}{X:Value->Shared->Prop}{S:Shared}{C N:Addr}{mr mB:List Value}{hd:Bool}{B id ii:String}
theorem pd{e t:Addr}{dx:Option Addr}{us:List Value}{Q:Value->Shared->Prop}(c:XO S.heap C N mr hd id)(b:ExcBaseFacts B id ii mB)(tl:OwnTail S.heap mB mr)(ee:S.heap.get? e=some (iF C t dx))(few:us.length<=sizeLine)
  (q:∀H t',(∀a u,a≠e->S.heap.get? a=some u->H.get? a=some u)->H.get? e=some (iF C t' dx)->Q .none { S with heap:=H }):wpAny (model P W) A (call (.builtin ii) (.ref e::us)) Q X S:=by
 obtain⟨_,_,_,_,_,_,_,_,_,_,_,_,_,e0⟩:=c;obtain⟨H,gs,dr,tk,os⟩:=S;have sb:∀{M:Model}{A:Around}{E:Value->Shared->Prop}{g:Array GenState}{d:Drawn}{t:Nat}{o:OsState}{R:Bool->Shared->Prop},R true ⟨H,g,d,t,o⟩->wpAny M A (isSubtype (.ref C) (.type B)) R E ⟨H,g,d,t,o⟩:=fun r=>wpAny_isSubtype_exc e0 (by rw[show(Value.ref C::mr).contains (.type B)=true by rw[Qd,tl.hasType b.hasB,Vf]];exact r)
 have any:∀(x y:String)(n:Nat),Bind.check ⟨.positional,"*",B,.self,[⟨"args",.varPos,false⟩]⟩ x y n []=pure ():=fun x y n=>check_star_args ..;have ns:=b.noStar;refine wpAny_call (codeAny_call_builtin b.init.plain b.initEntry ?_);simp only[checkBuiltinCall,b.initSplit,b.initRow,b.initKind]
 wp_walk using wpAny_loadPart_at ee,wpAny_loadPart_at e0,sb
 refine wpAny_onRaise ?_;change wpAny _ _ (Bind.check _ _ _ _ []) _ _ _;rw[any]
 wp_walk
 refine q _ H.objs.size (fun a u n z=>?_) ?_
 ·exact(Heap.get?_update_other _ _ (Ne.symm n)).trans (Heap.get?_push_of_some _ z)
 ·exact(Heap.get?_update_self _ (Heap.get?_push_of_some _ ee) rfl).trans rfl
end
theorem pe{M:Model}{A:Around}{X:Value->Shared->Prop}{S:Shared}{d:Addr}{f:Str}{tt:Tok}{v:Value}{R:Fin->Shared->Prop}(n:S.heap.Ns1 d fun _=>none)(q:∀H t,H.Ns1 d (fun y=>if y=f then some v else none)->Heap.SameBut d S.heap H->R (.done (.ret .none)) { S with heap:=H,toks:=t }) :
  wpAny M A (Builtin.ObjectAttr.storeInDict d (.str f tt) f v) R X S:=by
 unfold Builtin.ObjectAttr.storeInDict;unfold Builtin.ObjectAttr.newKeyGuard;refine wpAny_bind (wpAny_pure (wpAny_bind (wpAny_nsSet1 n fun G m sm=>?_)));obtain⟨_,_,_,g1,g2,few⟩:=m.count (Within.cons f v Within.nil);refine wpAny_bind (wpAny_lookBehind g1 ?_ (wpAny_pure (q _ _ m sm)));rw[g2];exact pastItsLine_dict (Vb few (by rw[sizeLine_eq];exact(by decide:1<=16777216+1)))
open PySem.W in
theorem mY{P:Program}{W:World}{A:Around}{X:Value->Shared->Prop}{S:Shared}{K:Frag}{C N T e:Addr}{mB:List Value}{B id sa ow:String}{f:Str}{v:Value}{t0:Addr}{Q:Unit->Shared->Prop}(kin:K.In S.heap)(c:XO S.heap C N (.ref T::mB) true id)(sf:StoreFacts B mB sa ow)
  (f1:findIn K (.ref C) "__setattr__"=some (some (.builtin sa)))(f2:findIn K (.ref C) f=some none)(eo:S.heap.get? e=some (iF C t0 none))
  (q:∀H t dx,H.get? e=some (iF C t0 (some dx))->S.heap.objs.size<=dx->dx≠e->H.Ns1 dx (fun y=>if y=f then some v else none)->(∀a u,a≠e->S.heap.get? a=some u->H.get? a=some u)->Q () { S with heap:=H,toks:=t }) :
  wpAny (model P W) A (setAttr (.ref e) f v) Q X S:=by
 obtain⟨_,_,_,_,_,_,_,_,_,_,_,_,_,e0⟩:=c;obtain⟨H,gs,dr,tk,os⟩:=S;have sb:∀{M:Model}{A:Around}{E:Value->Shared->Prop}{g:Array GenState}{d:Drawn}{t:Nat}{os:OsState}{R:Bool->Shared->Prop},R true ⟨H,g,d,t,os⟩->wpAny M A (isSubtype (.ref C) (.type ow)) R E ⟨H,g,d,t,os⟩:=fun r=>wpAny_isSubtype_exc e0 (by rw[show(Value.ref C::.ref T::mB).contains (.type ow)=true by rw[Qd,Qd,sf.hasOwner,Vf,Vf]];exact r)
 have lp:∀{M:Model}{A:Around}{E:Value->Shared->Prop}{g:Array GenState}{d:Drawn}{t:Nat}{os:OsState}{pt}{R:Obj->Shared->Prop},R (iF C t0 none) ⟨H,g,d,t,os⟩->wpAny M A (loadPart e pt) R E ⟨H,g,d,t,os⟩:=fun r=>wpAny_loadPart_at eo r;have l1:=looks_findIn (M:=model P W) kin f1;have l2:=looks_findIn (M:=model P W) kin f2;have bd:=sf.slot.bind (.ref e);unfold setAttr callSpecial?;unfold specialOf
 wp_walk using lp
 refine Looks.here (s:=⟨H,gs,dr,tk+1,os⟩) l1 ?_;dsimp only
 wp_walk
 refine codeAny_call_builtin sf.slot.plain sf.entry ?_;have lk:Looks (model P W) H (isInstance (.ref e) (.type ow)) true:=fun A' Q' E' S' k z=>by
  obtain⟨H',gs',dr',tk',os'⟩:=S';unfold isInstance
  wp_walk using wpAny_loadPart_at (k _ _ eo)
  refine wpAny_isSubtype_exc (k _ _ e0) ?_;rw[show(Value.ref C::.ref T::mB).contains (.type ow)=true by rw[Qd,Qd,sf.hasOwner,Vf,Vf]]
  exact z
 refine PySem.W.check_slot (s:=⟨H,gs,dr,tk+1,os⟩) sf.kind sf.split lk (sf.args (.ref e) (.str f tk) v) ?_;have ty:∀{M:Model}{A:Around}{E:Value->Shared->Prop}{g:Array GenState}{d:Drawn}{t:Nat}{os:OsState}{R:Value->Shared->Prop},R (.ref C) ⟨H,g,d,t,os⟩->wpAny M A (typeOf (.ref e)) R E ⟨H,g,d,t,os⟩:=fun r=>by
  unfold typeOf
  wp_walk using lp
  exact r
 have rl:refuseLoop (.ref e) "__setattr__" (.ref C::.ref T::mB)=pure ():=by
  rw[refuseLoop_ref,refuseLoop_ref];exact sf.passes _
 have l3:∀{A:Around}{E:Value->Shared->Prop}{g:Array GenState}{d:Drawn}{t:Nat}{os:OsState}{R:Option Value->Shared->Prop},R none ⟨H,g,d,t,os⟩->wpAny (model P W) A (typeLookup (.ref C) f) R E ⟨H,g,d,t,os⟩:=fun r=>Looks.here (s:=⟨H,_,_,_,_⟩) l2 r;have rf:∀{M:Model}{A:Around}{E:Value->Shared->Prop}{g:Array GenState}{d:Drawn}{t:Nat}{os:OsState}{R:Unit->Shared->Prop},R () ⟨H,g,d,t,os⟩->wpAny M A (Builtin.ObjectAttr.refuseIfOverridden (.ref e) "__setattr__") R E ⟨H,g,d,t,os⟩:=fun r=>by
  rw[refuse_eq];refine wpAny_bind (ty (wpAny_bind (wpAny_mroOf_exc e0 ?_)));rw[rl];exact wpAny_pure r
 delta Builtin.«object.__setattr__»
 have fin:∀{A:Around}{E:Value->Shared->Prop}{g:Array GenState}{d:Drawn}{t:Nat}{os:OsState}{R:Fin->Shared->Prop},(∀G t,G.get? e=some (iF C t0 (some H.objs.size))->G.Ns1 H.objs.size (fun y=>if y=f then some v else none)->(∀a u,a≠e->H.get? a=some u->G.get? a=some u)->R (.done (.ret .none)) ⟨G,g,d,t,os⟩) ->
   wpAny (model P W) A (Builtin.ObjectAttr.storeInDict H.objs.size (.str f tk) f v) R E ⟨(H.push { cls:=.type "dict",data:=.dict #[] }).update e fun o=>{ cls:=o.cls,dict:=some H.objs.size,data:=o.data,slots:=o.slots },g,d,t,os⟩:=fun {A E g d t os R} r=>by
  have ne:e≠H.objs.size:=Xf (Heap.lt_size eo);have n0:=Heap.get?_update_ne (H.push { cls:=.type "dict",data:=.dict #[] }) H.objs.size e (fun o=>{ cls:=o.cls,dict:=some H.objs.size,data:=o.data,slots:=o.slots }) ne.symm;have n1:=n0.trans (Heap.get?_push_size H rfl);refine pe (Heap.Ns1.of_empty ⟨_,_,_,n1,rfl,fun x hx=>absurd hx (by simp),fun _=>rfl⟩) fun G t' m sm=>r G t' ?_ m fun a u n z=>?_
  ·exact(sm.2 e ne).trans ((Heap.get?_update_self _ (Heap.get?_push_of_some _ eo) rfl).trans rfl)
  ·exact(sm.2 a (Xf (Heap.lt_size z))).trans ((Heap.get?_update_ne _ _ _ _ n).trans (Heap.get?_push_of_some _ z))
 wp_walk using rf,ty,l3,lp,wpAny_loadPart_at e0,fin
 intro G t' g1 g2 g3;dsimp only
 wp_walk
 exact q G t' _ g1 (Xa _) (Nat.ne_of_gt (Heap.lt_size eo)) g2 g3
end VX
namespace VX
open PySem PySem.Spec PySem.W PyProof.Rows L2 VF
noncomputable def xφ(C e:Addr)(dx:Option Addr):Heap->Prop:=fun h=>∃t,h.get? e=some (iF C t dx)
theorem qT{P:Program}{w:World}{H:Hp}{h:Heap}{C e:Addr}{dx:Option Addr}(q:xφ C e dx h):ObjOk P w H h e (.ext (xφ C e dx)) :=
 ⟨q,let ⟨_,z⟩:=q;⟨_,z⟩,fun _ _ ⟨t,z⟩ k=>⟨t,k _ z⟩⟩
structure XC(K:PySem.W.Frag)(C T f:Addr)(id ii sa ow B:String)(mB:List Value):Prop where
 ob:∃N,(∃a b bs sn su x y z p0 p1 p2 p3 p5,K.lookup C=some (excClassObj a b C N bs (.ref T::mB) true sn su x y z p0 p1 p2 p3 p5 id))/\nsOkIn K N=true/\nsIn K N "__init__"=some (some (.ref f))
 tl:∃c0 dd cd sl,K.lookup T=some { cls:=c0,dict:=dd,data:=.cls cd,slots:=sl }/\nsOkIn K cd.ns=true/\nsIn K cd.ns "__init__"=some none
 bf:ExcBaseFacts B id ii mB
 sf:StoreFacts B mB sa ow
 st:findIn K (.ref C) "__setattr__"=some (some (.builtin sa))
 fo:∃o,K.lookup f=some o/\o.cls=.type "function"
 kp:keepIn K (.ref C)=true
section
variable {X:Cx}{K:PySem.W.Frag}{C T f:Addr}{id ii sa ow B:String}{mB:List Value}{pins:List (Addr×Obj)}{σ:L2.St}{H:Hp}{s:Shared}{h:Heap}
theorem XC.tail(x:XC K C T f id ii sa ow B mB)(kin:K.In h):OwnTail h mB (.ref T::mB):=by
 obtain⟨c0,dd,cd,sl,l,n,i⟩:=x.tl;exact .own (kin _ _ l) (.of_isNs (isNs_of_in kin n)) (nsMap_none_of_in kin n i) .base
theorem XC.cls(x:XC K C T f id ii sa ow B mB)(kin:K.In h):∃N,XO h C N (.ref T::mB) true id:=by
 obtain⟨N,⟨_,_,_,_,_,_,_,_,_,_,_,_,_,l⟩,_⟩:=x.ob;exact⟨N,.mk _ _ _ _ _ _ _ _ _ _ _ _ _ (kin _ _ l)⟩
noncomputable def uJ(C:Addr)(ta:TA):TE:=fun σ H Q=>ta σ H fun vs H1=>∃e ws,vs=.ref e::ws/\ws.length<=10/\H1 e=some (.ext (xφ C e none))/\Q .non H1
theorem tw{pl:Sem Bool}{x m:Str}{p apos pos:Pos}{a:Expr}{as:List Expr}{ta:TA}{mc:Value}(hK:X.K=K)(xc:XC K C T f id ii sa ow B mB)(hg:Gl X x)(hm:X.mg x=some (.ref T))
  (hga:specialIn K (.ref T) "__getattribute__"=some (some (.builtin "type.__getattribute__")))(hrd:readsIn K T mc=true)(hf:findCls K (.ref T) mc m=some (.val (.builtin ii)))(ha:PA X (a::as) ta)
  (hh:handedIn (.builtin ii)=true:=by rfl) (hdb:(x == ("__debug__":Str))=false:=by decide) (hst:starEach (a::as) X.env=(false,eval a X.env)::starEach as X.env:=by rfl) (hpl:(backTo pos (starEach as X.env)).any (·.1)=false:=by rfl)
  (ht:eval (.Call (.Attribute (.Name x p) m apos) (a::as) [] pos) X.env=(do
   let ov ← eval (.Name x p) X.env
   standAt apos.atName
   let (f,first) ← holding [ov] (getMethod ov m pl)
   callWith pos f first (backTo pos (starEach (a::as) X.env)) (backToKw pos (keywordEach [] X.env))):=by rfl) :
  PE X (.Call (.Attribute (.Name x p) m apos) (a::as) [] pos) (uJ C ta):=by
 intro pins s σ H Q I h;subst hK;refine PySem.W.methodCall_KW (pl:=pl) (fw I hg hm ?_ hdb) ht;refine method_cls I.kIn hga (cls_value I.kIn hrd hf hh ?_);have hA:=ha pos pins _ σ H _ (I.tok (s.toks+1)) h;rw[hst]at hA ⊢;refine Calls.callWith_builtin (by show(false||(backTo pos (starEach as X.env)).any (·.1))=false;rw[hpl]<;>rfl) (Calls.evalArgs_plain ?_)
 refine thn hA fun us s2 zz=>?_;obtain⟨vs,H2,I2,r2,e,ws,rfl,hl,ee,q⟩:=zz;cases r2 with
 | @cons _ u _ us' r rr =>
  obtain rfl:u=Value.ref e:=r;obtain⟨N,xo⟩:=xc.cls I2.kIn;obtain⟨t0,he⟩:=(I2.hok e _ ee).1;refine pd xo xc.bf (xc.tail I2.kIn) he (by rw[← rr.length];exact Vb hl (by decide)) fun h' t' k he'=>?_
  have I3:=I2.write (x:=e) (e:=e) (o:=.ext (xφ C e none)) (t':=s2.toks) (by rw[ee];exact True.intro) (.inl rfl) (fun b u hb z=>k b u hb z) ⟨_,he'⟩ (qT ⟨_,he'⟩)
  have eH:upd H2 e (.ext (xφ C e none))=H2:=by
   funext b
   by_cases hb:b=e
   ·subst hb;rw[ay,ee]
   ·rw[ao hb]
  rw[eH]at I3;exact⟨.non,H2,I3,rfl,q⟩
noncomputable def sXF(C:Addr)(n:Str)(ta tv:TE):TS:=fun D σ H=>tv σ H fun y H1=>ta σ H1 fun x H2=>∃e,x=.ref e/\H2 e=some (.ext (xφ C e none))/\∀dx,H2 dx=none->D.nx σ (upd (upd H2 e (.ext (xφ C e (some dx)))) dx (.xd [(n,y)]))
theorem tx{o value:Expr}{n:Str}{pos' pos:Pos}{ta tv:TE}(hK:X.K=K)(xc:XC K C T f id ii sa ow B mB)(fn:findIn K (.ref C) n=some none)(ha:PE X o ta)(hv:PE X value tv)
  (hs:swapsWith value (some (.Attribute o n pos')) pos.line X.env=pure false:=by rfl):PS X (.Assign [.Attribute o n pos'] value pos) (sXF C n ta tv):=by
 intro pins s σ H D I h;subst hK;refine plainObj_wpAny_Assign_Attribute (thn (hv pins s σ H _ I h) fun u s1 ⟨y,H1,I1,ry,q⟩=>thn (ha pins s1 σ H1 _ I1 q) fun ov s2 zz9=>?_) hs;obtain⟨x,H2,I2,rx,e,rfl,ee,q2⟩:=zz9;obtain rfl:ov=Value.ref e:=rx;obtain⟨N,xo⟩:=xc.cls I2.kIn;obtain⟨t0,he⟩:=(I2.hok e _ ee).1;refine mY I2.kIn xo xc.sf xc.st fn he fun h' tk' dx hx' hnew hne hns k=>?_;have nd:H2 dx=none:=I2.hok.fresh hnew;have hnew:s2.heap.get? dx=none:=Heap.get?_none_of_le hnew;have ne1:∀b o,H2 b=some o->b≠dx:=fun b o z w=>by rw[w,nd]at z;cases z
 have old:∀b o,s2.heap.get? b=some o->b≠dx:=fun b o z w=>by rw[w,hnew]at z;cases z
 refine⟨σ,_,I2.un (h':=h') (t':=tk') ⟨fun b o z n _ _=>k b o (fun w=>by rw[w,ee]at n;cases n) z,fun b o z n _ _=>⟨o.slots,k b o (fun w=>by rw[w,ee]at n;cases n) z⟩,fun b o z n _=>?_,fun b o z _=>?_,fun b xs z=>?_,fun b o u z=>?_,fun b ps z=>?_⟩ fun b o z=>?_,q2 dx nd⟩
 ·rw[ao (old b o z),ao fun w=>by rw[w,ee]at n;cases n];exact n
 ·by_cases w:b=e
  ·rw[w];exact⟨_,hx'⟩
  ·exact⟨o,k b o w z⟩
 ·rw[ao (ne1 b _ z),ao (fun w=>by rw[w,ee]at z;cases z)];exact z
 ·rw[ao (ne1 b _ z),ao (fun w=>by rw[w,ee]at z;cases z)];exact z
 ·exact⟨#[],by rw[ao (ne1 b _ z),ao (fun w=>by rw[w,ee]at z;cases z),z];simp⟩
 ·by_cases w:b=dx
  ·subst w;rw[ay]at z;cases z;refine⟨_,hns,fun g=>?_⟩;by_cases hg:g=n
   ·subst hg;rw[if_pos rfl,List.lookup_cons_self];exact ry
   ·rw[if_neg hg,List.lookup_cons,show(g == n)=false from by simpa using hg];exact True.intro
  ·rw[ao w]at z;by_cases v:b=e
   ·subst v;rw[ay]at z;cases z;exact qT ⟨t0,hx'⟩
   ·rw[ao v]at z;refine(I2.hok b o z).stay (fun c v' hc qq=>k c v' ?_ qq) (fun c qq=>?_) fun c ys qq=>?_
    ·rcases hc with hc|hc
     ·rw[hc];exact v
     ·exact fun w'=>by rw[w',ee]at hc;cases hc
    ·rw[ao (ne1 c _ qq),ao (fun w'=>by rw[w',ee]at qq;cases qq)];exact qq
    ·rw[ao (ne1 c _ qq),ao (fun w'=>by rw[w',ee]at qq;cases qq)];exact qq
end
end VX
namespace VX
open PySem PySem.Spec PySem.W PyProof.Rows L2 VF
theorem v5{K:Frag}{h:Heap}{N:Addr}{m:Str->Option Value}{n:Str}{v:Value}(kin:K.In h)(g:h.Ns N m)(e:nsIn K N n=some (some v)):m n=some v:=by
 obtain⟨o,es,ep,g1,g2,_,g4⟩:=g;cases l:K.lookup N with
 | none=>unfold nsIn at e;rw[l]at e;cases e
 | some u =>
  obtain rfl:=Option.some.inj ((kin _ _ l).symm.trans g1);obtain⟨c,d,dt,sl⟩:=u;cases g2;unfold nsIn at e;rw[l]at e;dsimp only at e;cases w:es.toList.find? (·.key.isStr n) with
  | none=>rw[w]at e;dsimp only at e;split at e<;>cases e
  | some x =>
   rw[w]at e;cases e;rw[← g4 n];show nsFind es n=some x.val;unfold nsFind findBy;rw[← Array.find?_toList];exact congrArg (Option.map _) w
section
variable {X:Cx}{C T f:Addr}{id ii sa ow B:String}{mB:List Value}{pins:List (Addr×Obj)}{σ:L2.St}{H:Hp}{s:Shared}{k:Nat}{fd:FuncData}{ps:List Str}{sp:Sp}{dvs:List V}{ds:List Value}
theorem pf{Q:VK}{us:List Value}{vs:List V}(xc:XC X.K C T f id ii sa ow B mB)(F:FnOk X.prog X.w X.K X.mg X.base CX0 k f fd ps sp)(hr:Room (k+1) X.A)(hb:L2.Binds X.K fd ps ds)(hd:Vals dvs ds)
  (I:L2.Inv X pins σ H s)(r:Vals vs us)(hus:us.length<=sizeLine)(h:∀e,H e=none->sp (.ref e::(vs++dvs)) (upd H e (.ext (xφ C e none))) (fun v H2=>v=.non/\Q (.ref e) H2) E0) :
  wpAny (model X.prog X.w) X.A (call (.ref C) us) (EP X pins σ Q) X.xe s:=by
 obtain⟨N,⟨_,_,_,_,_,_,_,_,_,_,_,_,_,l⟩,hN,hi⟩:=xc.ob;obtain⟨oI,lI,cI⟩:=xc.fo;have hn:=Heap.Ns.of_isNs (isNs_of_in I.kIn hN);refine pc (.mk _ _ _ _ _ _ _ _ _ _ _ _ _ (I.kIn _ _ l)) xc.bf (xc.tail I.kIn) hn (v5 I.kIn hn hi) (I.kIn _ _ lI) cI hus fun h' e t kk hz ht=>?_;have hq:=h e (I.hok.fresh hz);have I2:=I.laid (a:=e) (o:=.ext (xφ C e none)) (t':=s.toks) kk hz (qT ⟨t,ht⟩);have r2:Vals (V.ref e::(vs++dvs)) (Value.ref e::(us++ds)):=.cons rfl (r.append hd);have hl:(Value.ref e::us++ds).length=ps.length:=by
  have e:=r2.length;rw[F.len _ _ _ _ hq]at e;exact e.symm
 refine codeAny_mono (F.run _ X.stack _ _ ⟨Value.ref e::us,[]⟩ (Value.ref e::(us++ds)) _ _ E0 (hr.make C us []) (I2.env0.make C us []) (hb _ (Value.ref e::us) I2.kIn hl) r2 hq) fun r s' hq'=>?_;cases r with
 | error e=>exact hq'.elim
 | ok fl =>
  cases fl with
  | ret u =>
   obtain⟨v,H',I3,rv,ev,q3⟩:=I2.after hq';subst ev;exact⟨rv,⟨V.ref e,H',I3,rfl,q3⟩⟩
  | _=>exact hq'.elim
end
end VX
namespace VX
open PySem PySem.Spec PySem.W PyProof.Rows L2 VF
structure X1(h:Heap)(e C dx T:Addr)(fl:Value):Prop where
 ex:∃vs sl,h.get? e=some ⟨.ref C,some dx,.fields vs,sl⟩/\vs[1]?=some (.ref T)
 ne:T≠e
 tb:∃o ts,h.get? T=some o/\o.data=.fields ts/\ts[3]?=some fl
structure Kn(fs:List Addr)(ch:List Addr)(h h':Heap):Prop where
 keep:∀b o,b∉fs->b∉ch->h.get? b=some o->h'.get? b=some o
 slot:∀b o,b∈fs->b∉ch->h.get? b=some o->∃sl,h'.get? b=some { o with slots:=sl }
 size:h.objs.size<=h'.objs.size
theorem Kn.trans{fs ch ch':List Addr}{h h1 h2:Heap}(a:Kn fs ch h h1)(b:Kn fs ch' h1 h2):Kn fs (ch++ch') h h2 :=
 ⟨fun x o n m z=>b.keep x o n (fun w=>m (Yc _ w)) (a.keep x o n (fun w=>m (Xi _ w)) z),fun x o n m z=>by
  obtain⟨sl,z1⟩:=a.slot x o n (fun w=>m (Xi _ w)) z
  exact b.slot x { o with slots:=sl } n (fun w=>m (Yc _ w)) z1,Vb a.size b.size⟩
section
variable {M:Model}{A:Around}{X:Value->Shared->Prop}{S:Shared}{base:Heap}{en:Env}{outer:List Env}{L e C dx T:Addr}
theorem entry_at{vs:Array Value}{sl:Array (Option Value)}{hd:Value}{b:Bool}{Q:Unit->Shared->Prop}(fr:A.frames=some (en::outer))(ff:S.heap.FunFrames base (en::outer))(hf:en.frame=some L)(ee:S.heap.get? e=some ⟨.ref C,some dx,.fields vs,sl⟩)(v1:1<vs.size)
  (q:∀H T,Kn (frs (en::outer)) [e] S.heap H->S.heap.objs.size<=T->X1 H e C dx T (rawInt L)->Q () { S with heap:=H }) :
  wpAny M A (do let a ← frameOf en;let pl ← entryPlaceOf L b;let x ← EntryCells.newEntry hd a .none (rawInt L) .none pl;setField (.ref e) 1 x) Q X S:=by
 have nf:e∉frs (en::outer):=fun z=>by
  obtain⟨_,o,z1,z2⟩:=ff.mem z;rw[ee]at z1;cases z1;exact z2 vs rfl
 refine wpAny_bind (wpAny_frameOf_fun fr ff hf fun H1 so=>wpAny_bind (wpAny_entryPlaceOf fun pl hp=>?_));have e1:H1.get? e=some ⟨.ref C,some dx,.fields vs,sl⟩:=(so.2.1 e nf).trans ee
 delta EntryCells.newEntry newFields
 refine wpAny_bind (wpAny_newObj_type ?_ (hp.sizeOk5 _ _ _ _ _));generalize hO:({ cls:=.type "traceback",dict:=none,data:=.fields ([hd,.ref L,.none,rawInt L,.none]++(if pl.isEmpty=true then List.replicate 6 Value.none else pl)).toArray }:Obj)=O;have e2:(H1.push O).get? e=some ⟨.ref C,some dx,.fields vs,sl⟩:=Heap.get?_push_of_some _ e1;have ne:H1.objs.size≠e:=Nat.ne_of_gt (Heap.lt_size e1);refine wpAny_setField e2 rfl v1 (q _ H1.objs.size ⟨fun b o n1 n2 z=>?_,fun b o n1 n2 z=>?_,?_⟩ (Nat.le_of_eq so.1.symm) ⟨⟨vs.setIfInBounds 1 (.ref H1.objs.size),sl,?_,by simp[v1]⟩,ne,O,?_⟩)
 ·exact(Heap.get?_update_other _ _ fun w:e=b=>n2 (w ▸ .head _)).trans (Heap.get?_push_of_some _ ((so.2.1 b n1).trans z))
 ·obtain⟨sl',z1⟩:=so.2.2 b o z;exact⟨sl',(Heap.get?_update_other _ _ fun w:e=b=>n2 (w ▸ .head _)).trans (Heap.get?_push_of_some _ z1)⟩
 ·rw[Heap.size_update,Heap.size_push,so.1];exact Nat.le_succ _
 ·exact(Heap.get?_update_self _ e2 rfl).trans rfl
 ·subst hO;exact⟨_,(Heap.get?_update_other _ _ ne.symm).trans (Heap.get?_push_size _ rfl),rfl,by rcases hp with rfl|⟨_,_,_,_,_,_,_,rfl⟩<;>simp⟩
theorem land{fl:Value}{Q:Unit->Shared->Prop}{fs:List Addr}(x:X1 S.heap e C dx T fl)(q:∀H,Kn fs [T] S.heap H->X1 H e C dx T .none->Q () { S with heap:=H }):wpAny M A (setFlight (.ref e) none) Q X S:=by
 obtain⟨⟨vs,sl,e1,v1⟩,ne,o,ts,t1,t2,t3⟩:=x;unfold setFlight;refine wpAny_bind (wpAny_field e1 rfl v1 ?_);rw[if_pos (show(Value.ref T != Value.none)=true by simp)]
 have v3:=(Ye.mp t3).1;refine wpAny_setField t1 t2 v3 (q _ ⟨fun b o n1 n2 z=>?_,fun b o n1 n2 z=>⟨o.slots,?_⟩,?_⟩ ⟨⟨vs,sl,?_,v1⟩,ne,?_⟩)
 ·exact(Heap.get?_update_other _ _ fun w:T=b=>n2 (w ▸ .head _)).trans z
 ·exact(Heap.get?_update_other _ _ fun w:T=b=>n2 (w ▸ .head _)).trans z
 ·rw[Heap.size_update];exact Xa _
 ·exact(Heap.get?_update_other _ _ ne).trans e1
 ·have d:=Obj.data_mapFields t2 (·.setIfInBounds 3 ((none:Option Addr).elim Value.none fun f=>rawInt f));exact⟨_,_,Heap.get?_update_self _ t1 (Obj.isFreed_of_fields d),d,by simp[v3]⟩
theorem xq{vs:Array Value}{sl:Array (Option Value)}{Q:Unit->Shared->Prop}(fr:A.frames=some (en::outer))(ff:S.heap.FunFrames base (en::outer))(hf:en.frame=some L)(ee:S.heap.get? e=some ⟨.ref C,some dx,.fields vs,sl⟩)(v1:vs[1]?=some .none)
  (q:∀H T,Kn (frs (en::outer)) [e] S.heap H->S.heap.objs.size<=T->X1 H e C dx T (rawInt L)->Q () { S with heap:=H }):wpAny M A (noteFrame (.ref e) en) Q X S:=by
 unfold noteFrame;rw[hf];refine wpAny_bind (wpAny_field ee rfl v1 ?_);rw[if_neg (by decide)]
 exact entry_at fr ff hf ee (Ye.mp v1).1 q
theorem xu{Q:Unit->Shared->Prop}(fr:A.frames=some (en::outer))(ff:S.heap.FunFrames base (en::outer))(hf:en.frame=some L)(x:X1 S.heap e C dx T .none)(hT:T∉frs (en::outer))
  (q:∀H T',Kn (frs (en::outer)) ([T]++[e]) S.heap H->S.heap.objs.size<=T'->X1 H e C dx T' (rawInt L)->(∃o ts,H.get? T=some o/\o.data=.fields ts/\ts[3]?=some .none)->Q () { S with heap:=H }):wpAny M A (noteFrame (.ref e) en) Q X S:=by
 obtain⟨⟨vs,sl,e1,v1⟩,ne,o,ts,t1,t2,t3⟩:=x;unfold noteFrame;rw[hf];refine wpAny_bind (wpAny_field e1 rfl v1 ?_);rw[if_pos (show(Value.ref T != Value.none)=true by simp)]
 refine wpAny_bind (wpAny_field t1 t2 t3 ?_);rw[if_neg (show ¬ (Value.none == rawInt L)=true by simp[rawInt])]
 refine wpAny_bind (wpAny_setField t1 t2 (Ye.mp t3).1 ?_);have ot:∀b,b≠T->(S.heap.update T (Obj.mapFields (·.setIfInBounds 3 Value.none))).get? b=S.heap.get? b:=fun b n=>Heap.get?_update_other _ _ (Ne.symm n);have k1:Kn (frs (en::outer)) [T] S.heap (S.heap.update T (Obj.mapFields (·.setIfInBounds 3 Value.none))):=⟨fun b o _ n z=>(ot b fun w=>n (w ▸ .head _)).trans z,fun b o _ n z=>⟨o.slots,(ot b fun w=>n (w ▸ .head _)).trans z⟩,by rw[Heap.size_update];exact Xa _⟩
 have td:=Obj.data_mapFields t2 (·.setIfInBounds 3 Value.none);refine entry_at (S:={ S with heap:=S.heap.update T (Obj.mapFields (·.setIfInBounds 3 Value.none)) }) fr (ff.of_keeps fun b o z nn=>⟨o,(ot b fun w=>?_).trans z,rfl⟩) hf ((ot e (Ne.symm ne)).trans e1) (Ye.mp v1).1 fun H T' k z x=>q H T' (k1.trans k) (Vb k1.size z) x ⟨_,_,k.keep T _ hT (fun m=>ne (Ze.mp m)) (Heap.get?_update_self _ t1 (Obj.isFreed_of_fields td)),td,by simp[(Ye.mp t3).1]⟩
 rw[w,t1]at z;cases z;exact nn ts t2
theorem v6{vs:Array Value}{sl:Array (Option Value)}{Q:Unit->Shared->Prop}(fr:A.frames=some (en::outer))(ff:S.heap.FunFrames base (en::outer))(hf:en.frame=some L)(ee:S.heap.get? e=some ⟨.ref C,some dx,.fields vs,sl⟩)(v1:vs[1]?=some .none)
  (q:∀H T,Kn (frs (en::outer)) [e] S.heap H->S.heap.objs.size<=T->X1 H e C dx T .none->Q () { S with heap:=H }):wpAny M A (leaving en (.ref e)) Q X S:=by
 unfold leaving;refine wpAny_bind (xq fr ff hf ee v1 fun H T k z x=>?_);refine land (S:={ S with heap:=H }) (fs:=frs (en::outer)) x fun H2 k2 x2=>q H2 T ?_ z x2;refine⟨fun b o n1 n2 w=>k2.keep b o n1 (fun m=>?_) (k.keep b o n1 n2 w),fun b o n1 n2 w=>?_,Vb k.size k2.size⟩
 ·rw[Ze.mp m]at w;exact absurd (Heap.lt_size w) (Nat.not_lt_of_le z)
 ·obtain⟨sl',w1⟩:=k.slot b o n1 n2 w;refine k2.slot b { o with slots:=sl' } n1 (fun m=>?_) w1;rw[Ze.mp m]at w;exact absurd (Heap.lt_size w) (Nat.not_lt_of_le z)
end
end VX
namespace VX
open PySem PySem.Spec PySem.W PyProof.Rows L2 VF
noncomputable def yφ(C e dx T:Addr):Heap->Prop:=fun h=>∃vs sl,h.get? e=some ⟨.ref C,some dx,.fields vs,sl⟩/\vs[1]?=some (.ref T)
noncomputable def tφ(T:Addr)(fl:Value):Heap->Prop:=fun h=>∃o ts,h.get? T=some o/\o.data=.fields ts/\ts[3]?=some fl
section
variable {P:Program}{w:World}{H:Hp}{h:Heap}{C e dx T:Addr}{fl:Value}
theorem xv(q:yφ C e dx T h):ObjOk P w H h e (.ext (yφ C e dx T)) :=
 ⟨q,let ⟨_,_,z,_⟩:=q;⟨_,z⟩,fun _ _ ⟨vs,sl,z,v⟩ k=>⟨vs,sl,k _ z,v⟩⟩
theorem xw(q:tφ T fl h):ObjOk P w H h T (.ext (tφ T fl)) :=
 ⟨q,let ⟨_,_,z,_⟩:=q;⟨_,z⟩,fun _ _ ⟨o,ts,z,v⟩ k=>⟨o,ts,k _ z,v⟩⟩
end
noncomputable def CXF(P:Program)(w:World):CXT:=fun outer H s E e s'=>∃a H',e=.ref a/\s'.os=s.os/\AllBare s'.gens/\Un (frs outer) [] H H' s.heap s'.heap/\HOk P w H' s'.heap/\E (.ref a) none H'
noncomputable abbrev two(H:Hp)(C e dx T:Addr)(fl:Value):Hp:=upd (upd H e (.ext (yφ C e dx T))) T (.ext (tφ T fl))
section
variable {X:Cx}{pins:List (Addr×Obj)}{σ:L2.St}{H:Hp}{s:Shared}{h':Heap}{ch:List Addr}{C e dx T:Addr}{fl:Value}
theorem ol(I:L2.Inv X pins σ H s)(k:Kn (frs X.stack) ch s.heap h')(he:∃φ,H e=some (.ext φ))(hT:(∃φ,H T=some (.ext φ))∨s.heap.objs.size<=T)
  (hc:∀b∈ch,b=e∨b=T∨∃φ,H b=some (.ext φ)/\φ h'/\∃o,h'.get? b=some o)(x:X1 h' e C dx T fl):L2.Inv X pins σ (two H C e dx T fl) { s with heap:=h' }:=by
 obtain⟨φe,he⟩:=he;obtain⟨ex,ne,tb⟩:=x;have hT':(∃φ,H T=some (.ext φ))∨(H T=none/\s.heap.get? T=none):=hT.imp id fun z=>⟨I.hok.fresh z,Heap.get?_none_of_le z⟩;have nT:∀b o,H b=some o->(∀φ,o≠.ext φ)->b≠T:=fun b o z n w=>by
  rw[w]at z;rcases hT' with⟨φ,q⟩|⟨q,_⟩
  ·rw[q]at z;cases z;exact n φ rfl
  ·rw[q]at z;cases z
 have nE:∀b o,H b=some o->(∀φ,o≠.ext φ)->b≠e:=fun b o z n w=>by
  rw[w,he]at z;cases z;exact n φe rfl
 have same:∀b o,H b=some o->(∀φ,o≠.ext φ)->two H C e dx T fl b=some o:=fun b o z n=>by
  unfold two;rw[ao (nT b o z n),ao (nE b o z n)];exact z
 have out:∀b,H b=none->b∈ch->∀o,s.heap.get? b≠some o:=fun b n m o z=>by
  rcases hc b m with w|w|⟨φ,w,_⟩
  ·rw[w,he]at n;cases n
  ·rw[w]at n z;rcases hT' with⟨φ,q⟩|⟨_,q⟩
   ·rw[q]at n;cases n
   ·rw[q]at z;cases z
  ·rw[w]at n;cases n
 have oc:∀c o,H c=some o->(∀φ,o≠.ext φ)->c∉ch:=fun c o z n m=>by
  rcases hc c m with w|w|⟨φ,w,_⟩
  ·exact nE c o z n w
  ·exact nT c o z n w
  ·rw[w]at z;cases z;exact n φ rfl
 refine I.call (ch:=[]) (g':=s.gens) (d':=s.drawn) (t':=s.toks) ⟨fun b o z n nf _=>k.keep b o nf (fun m=>out b n m o z) z,fun b o z n nf _=>k.slot b o nf (fun m=>out b n m o z) z,fun b o z n _=>?_,fun b o z _=>?_,fun b xs z=>same b _ z nofun,fun b o u z=>same b _ z nofun,fun b ps z=>⟨#[],by rw[Array.append_empty];exact same b _ z nofun⟩⟩ (fun b o z=>?_) I.bare nofun
 ·unfold two;rw[ao,ao]
  ·exact n
  ·intro w;rw[w,he]at n;cases n
  ·intro w;rw[w]at n z;rcases hT' with⟨φ,q⟩|⟨_,q⟩
   ·rw[q]at n;cases n
   ·rw[q]at z;cases z
 ·by_cases m:b∈ch
  ·rcases hc b m with w|w|⟨φ,_,_,w⟩
   ·rw[w];obtain⟨_,_,q,_⟩:=ex;exact⟨_,q⟩
   ·rw[w];obtain⟨_,_,q,_⟩:=tb;exact⟨_,q⟩
   ·exact w
  ·by_cases f:b∈frs X.stack
   ·obtain⟨_,q⟩:=k.slot b o f m z;exact⟨_,q⟩
   ·exact⟨_,k.keep b o f m z⟩
 ·unfold two at z;by_cases w:b=T
  ·subst w;rw[ay]at z;cases z;exact xw tb
  ·rw[ao w]at z;by_cases v:b=e
   ·subst v;rw[ay]at z;cases z;exact xv ex
   ·rw[ao v]at z;have nf:∀c u,H c=some u->c∉frs X.stack:=fun c u q m=>by rw[I.stkFree c m]at q;cases q
    by_cases m:b∈ch
    ·rcases hc b m with q|q|⟨φ,q,f,th⟩
     ·exact absurd q v
     ·exact absurd q w
     ·rw[q]at z;cases z;exact⟨f,th,(show ObjOk X.prog X.w H s.heap b (.ext φ) from I.hok b _ q).2.2⟩
    ·refine(I.hok b o z).stay (fun c u hc' q=>?_) (fun c q=>same c _ q nofun) fun c ys q=>same c _ q nofun;rcases hc' with rfl|hc'
     ·exact k.keep c u (nf c o z) m q
     ·exact k.keep c u (nf c _ hc') (oc c _ hc' nofun) q
end
section
variable {P:Program}{w:World}{K:Frag}{mg:Str->Option Value}{base:Heap}{N:List Str}{qual:Str}{scope:Scope}{f:Addr}{cd:Value}{A:Around}{outer:List Env}{s0 s:Shared}{H0 H:Hp}{E:XK}{pins:List (Addr×Obj)}{σ:L2.St}{C e dx:Addr}
theorem tz(I:L2.Inv (d8 (CXF P w) P w K mg base N qual scope f cd A outer s0 H0 E) pins σ H s)(he:H e=some (.ext (xφ C e (some dx))))(q:∀T,H T=none->E (.ref e) none (two H C e dx T .none)) :
  (d8 (CXF P w) P w K mg base N qual scope f cd A outer s0 H0 E).xe (.ref e) s:=by
 obtain⟨t,ee⟩:=(I.hok e _ he).1;refine v6 I.ok.frames I.stack rfl ee rfl fun h' T k z x=>?_;have J:=ol I k ⟨_,he⟩ (.inr z) (fun b m=>.inl (Ze.mp m)) x;exact⟨e,_,rfl,J.os,J.bare,J.base,J.hok,q T (I.hok.fresh z)⟩
end
end VX
namespace VX
open PySem PySem.Spec PySem.W PyProof.Rows L2 VF
noncomputable def spI(C:Addr)(n:Str):Sp:=fun vs H Q _=>∃e v,vs=[.ref e,v]/\H e=some (.ext (xφ C e none))/\∀dx,H dx=none->Q .non (upd (upd H e (.ext (xφ C e (some dx)))) dx (.xd [(n,v)]))
structure Rsd(C:Addr)(n:Str)(v:V)(H H':Hp)(e:Addr):Prop where
 new:H e=none
 obj:∃dx T,T≠e/\H' e=some (.ext (yφ C e dx T))/\H' dx=some (.xd [(n,v)])/\H' T=some (.ext (tφ T .none))
 old:∀b o,H b=some o->H' b=some o
noncomputable def tR(C:Addr)(n:Str)(E:XK):TS:=fun _ _ H=>∀e H',Rsd C n .non H H' e->E (.ref e) none H'
section
variable {P:Program}{w:World}{K:Frag}{mg:Str->Option Value}{base:Heap}{N:List Str}{qual:Str}{scope:Scope}{g:Addr}{cd:Value}{A:Around}{outer:List Env}{s0:Shared}{H0:Hp}{E:XK}{C T f:Addr}{id ii sa ow B:String}{mB:List Value}
theorem qU{k:Nat}{fd:FuncData}{x n:Str}{p cp pos:Pos}{ps:List Str}{ds:List Value}(xc:XC K C T f id ii sa ow B mB)(hbe:mB.contains (.type "BaseException")=true)(F:FnOk P w K mg base CX0 k f fd ps (spI C n))(hr:Room (k+1) (A.deeper (envOfC qual scope s0.heap.objs.size g cd)))(hb:L2.Binds K fd ps ds)(hd:Vals [V.non] ds)
  (hg:Gl (d8 (CXF P w) P w K mg base N qual scope g cd A outer s0 H0 E) x)(hm:mg x=some (.ref C))(hdb:(x == ("__debug__":Str))=false:=by decide) :
  PS (d8 (CXF P w) P w K mg base N qual scope g cd A outer s0 H0 E) (.Raise (some (.Call (.Name x p) [] [] cp)) none pos) (tR C n E):=by
 intro pins s σ H D I h;obtain⟨M,⟨_,_,_,_,_,_,_,_,_,_,_,_,_,l⟩,_⟩:=xc.ob;rw[arm_exec_Raise];refine wpAny_bind (wpAny_standAt (tu (C:=C) (N:=M) (mr:=.ref T::mB) (hd:=true) (id:=id) (ex:=do let v ← eval (.Call (.Name x p) [] [] cp) (envOfC qual scope s0.heap.objs.size g cd);standAt pos;pure v) (by rw[Qd,hbe,Vf]) (I.ok.hd rfl) ?_))
 refine wpAny_bind (thn ?_ fun v s1 z=>wpAny_bind (wpAny_standAt (wpAny_pure z)));refine wpAny_Call_Name_kw (fw I hg hm ?_ hdb);refine PySem.W.callWith_K0 I.kIn xc.kp (thn (pf (Q:=fun u H2=>∃e dx,u=.ref e/\H e=none/\upd H e (.ext (xφ C e none)) dx=none/\H2=upd (upd (upd H e (.ext (xφ C e none))) e (.ext (xφ C e (some dx)))) dx (.xd [(n,.non)])) (us:=[]) (vs:=[]) xc F hr hb hd I .nil (Vj _) fun e he=>⟨e,.non,rfl,ay,fun dx hx=>⟨rfl,e,dx,rfl,he,hx,rfl⟩⟩) fun u s2 zz=>?_);obtain⟨v,H2,I2,rv,e,dx,rfl,he,hx,rfl⟩:=zz;obtain rfl:u=Value.ref e:=rv;have ne:e≠dx:=fun z=>by rw[← z,ay]at hx;cases hx
 have nx:H dx=none:=by rw[ao (Ne.symm ne)]at hx;exact hx
 have e2:upd (upd (upd H e (.ext (xφ C e none))) e (.ext (xφ C e (some dx)))) dx (.xd [(n,V.non)]) e=some (.ext (xφ C e (some dx))):=by rw[ao ne,ay]
 obtain⟨t,ee⟩:=(I2.hok e _ e2).1;refine⟨e,t,some dx,rfl,.mk _ _ _ _ _ _ _ _ _ _ _ _ _ (I2.kIn _ _ l),ee,tz I2 e2 fun T' hT=>h e _ ⟨he,⟨dx,T',(fun z=>by rw[z,e2]at hT;cases hT),?_,?_,?_⟩,fun b o z=>?_⟩⟩
 ·have n1:e≠T':=fun z=>by rw[← z,e2]at hT;cases hT
  unfold two;rw[ao n1,ay]
 ·have n1:dx≠T':=fun z=>by rw[← z,ay]at hT;cases hT
  unfold two;rw[ao n1,ao (Ne.symm ne),ay]
 ·unfold two;rw[ay]
 ·have n1:b≠e:=fun q=>by rw[q,he]at z;cases z
  have n2:b≠dx:=fun q=>by rw[q,nx]at z;cases z
  have n3:b≠T':=fun q=>by
   rw[← q,ao n2,ao n1,ao n1,z]at hT;cases hT
  unfold two;rw[ao n3,ao n1,ao n2,ao n1,ao n1];exact z
end
noncomputable def rzV(fc:FT)(n m:Nat):List D->Option Bool:=fun ds=>if ds.length=m then(fc (et n ds)).map (·.1) else none
noncomputable def spG(K:Frag)(C:Addr)(n:Str)(R:List D->Option Bool)(g:List D->Option Rz):Sp:=fun vs H Q E=>spV K g vs H Q E∨∃Z ds,El K Z H vs ds/\(∀p,Z p->Lv H p)/\R ds=some true/\∀e H',Rsd C n .non H H' e->E (.ref e) none H'
section
variable {P:Program}{w:World}{K:Frag}{mg:Str->Option Value}{base h:Heap}{x n:Str}{st:Stmt}{N ps:List Str}{k:Nat}{fc:FT}{Fr:FS}{C:Addr}
theorem xy{F:FS}{a m:Nat}{vs:List V}{H:Hp}{Q:VK}{E:XK}(sp:spG K C n (rzV fc a m) (bu F a m) vs H Q E):vs.length=m:=by
 rcases sp with sp|⟨Z,ds,el,_,r,_⟩
 ·exact sy sp
 ·by_cases hm:ds.length=m
  ·exact el.1.trans hm
  ·simp only[rzV,if_neg hm]at r;cases r
theorem qV{tc:TT}{tr:TS}{vs:List V}{H:Hp}{Q:VK}{E:XK}{m:Nat}(hc:RdT K tc fc)(hr:RdS K tr Fr)(sp:spG K C n (rzV fc N.length m) (bu (aJ (sIf fc jf bO) Fr) N.length m) vs H Q E) :
  pE (rS tc (tR C n E) nA) tr { nx:=fun _ H'=>Q .non H',rt:=Q } (L2.start N vs) H:=by
 rcases sp with sp|⟨Z,ds,el,lv,r,q⟩
 ·exact nS (aA (bX (F:=jf) hc (fun _ _ _ _ _ _ _ _ z _=>by cases z) bq) hr) sp
 ·have hm:ds.length=m:=by
   by_cases hm:ds.length=m
   ·exact hm
   ·simp only[rzV,if_neg hm]at r;cases r
  simp only[rzV,if_pos hm]at r;obtain⟨⟨b,st'⟩,e1,e2⟩:=We.mp r;obtain rfl:b=true:=e2;refine hc _ _ H _ Z _ (lE el lv) true st' e1 fun H1 O1 x k E1=>?_;rw[if_pos rfl];have up:∀b o,H b=some o->H1 b=some o:=fun b o z=>x.kp b o z fun q=>q;refine fun e H' z=>q e H' ⟨?_,z.obj,fun b o w=>z.old b o (up b o w)⟩;cases w:H e with
  | none=>rfl
  | some o=>exact absurd ((up e o w).symm.trans z.new) nofun
structure CalG(P:Program)(w:World)(K:Frag)(mg:Str->Option Value)(base:Heap)(x:Str)(k:Nat)(ps:List Str)(sp:Sp):Prop where
 ex:∃f fd,FnOk P w K mg base (CXF P w) k f fd ps sp/\mg x=some (.ref f)/\keepIn K (.ref f)=true/\L2.Binds K fd ps []
noncomputable abbrev BdG(P:Program)(w:World)(K:Frag)(mg:Str->Option Value)(base:Heap)(x n:Str)(C:Addr)(st:Stmt)(N:List Str)(k:Nat)(fc:FT)(Fr:FS):Prop :=
 ∀{f:Addr}{cdv:Value}{A:Around}{outer:List Env}{s:Shared}{H:Hp}{E:XK},Room k (A.deeper (envOfC x (ak st) s.heap.objs.size f cdv))->∃tc tr,PSs (d8 (CXF P w) P w K mg base N x (ak st) f cdv A outer s H E) (bK st) (pE (rS tc (tR C n E) nA) tr)/\RdT K tc fc/\RdS K tr Fr
theorem uK(h':FH K x st)(X:K.In h)(G:h.Ns mainGlobals mg)(S:FnScope N ps (ak st))(hb:Bn x st ps)(hB:BdG P w K mg base x n C st N k fc Fr):CalG P w K mg base x (k+1) ps (spG K C n (rzV fc N.length ps.length) (bu (aJ (sIf fc jf bO) Fr) N.length ps.length)):=by
 obtain⟨f,fd,F',a⟩:=h'.ex;refine⟨f,fd,?_,PySem.W.mg_of X G a,F'.kp,F'.binds hb⟩;obtain⟨oc,od,kV,doc,pm,an,cdv,ct,osl,rfl,lk,hcd⟩:=F'.ex;refine pP lk hcd S (fun vs H Q E h=>xy h) fun A outer s H vs Q E hr hsp=>?_;obtain⟨tc,tr,h1,h2,h3⟩:=hB hr;exact⟨_,h1,qV h2 h3 hsp⟩
end
end VX
namespace VX
open PySem PySem.Spec PySem.W PyProof.Rows L2 VF
section
variable {P:Program}{w:World}{K:Frag}{mg:Str->Option Value}{base:Heap}{x qual n:Str}{st:Stmt}{ds:List Value}{N ps:List Str}{k:Nat}{C f:Addr}{fd:FuncData}
noncomputable def xz(C:Addr)(n:Str):TS:=pE (pF (uJ C (cE (gu 0) (cE (gu 1) km)))) (sXF C n (gu 0) (gu 1))
theorem tD(F:FunD K x qual st ds f fd)(S:FnScope N ps (ak st))(h2:ps.length=2)
  (hB:∀{cdv:Value}{A:Around}{outer:List Env}{s:Shared}{H:Hp}{E:XK},Room k (A.deeper (envOfC qual (ak st) s.heap.objs.size f cdv))->PSs (d8 CX0 P w K mg base N qual (ak st) f cdv A outer s H E).nox (bK st) (xz C n)):FnOk P w K mg base CX0 (k+1) f fd ps (spI C n):=by
 refine F.ok S (fun vs H Q E h=>?_) fun cdv A outer s H vs Q E hr h=>⟨_,hB hr,?_⟩
 ·obtain⟨e,v,rfl,_⟩:=h;exact h2.symm
 ·obtain⟨e,v,rfl,he,q⟩:=h;exact⟨.ref e,rfl,v,rfl,e,[v],rfl,Nat.le_of_ble_eq_true rfl,he,v,rfl,.ref e,rfl,e,rfl,he,q⟩
end
end VX
namespace VX
open PySem PySem.Spec PySem.W PyProof.Rows L2 VF
noncomputable abbrev mkd(X:Cx)(v:Value):Cx:={ X with A:=X.A.mark (some v),calm:=false,xe:=fun _ _=>False }
section
variable {X:Cx}{pins:List (Addr×Obj)}{σ:L2.St}{H:Hp}{s:Shared}{v:Value}
theorem qW(I:L2.Inv X pins σ H s):L2.Inv (mkd X v) pins σ H s :=
 ⟨⟨I.ok.mod,I.ok.kind,I.ok.glob,I.ok.blt,I.ok.above,I.ok.inj,I.ok.has,I.ok.cab,nofun,I.ok.frames,I.ok.stk,I.ok.exf,I.ok.bs,I.ok.bsz,I.ok.noex,I.ok.exfs,I.ok.funs,I.ok.frf⟩,I.os,I.bare,I.base,I.loc,I.cell,I.free,I.freeC,I.pin,I.hok,I.len⟩
theorem tE(ok:X.Ok)(I:L2.Inv (mkd X v) pins σ H s):L2.Inv X pins σ H s:=⟨ok,I.os,I.bare,I.base,I.loc,I.cell,I.free,I.freeC,I.pin,I.hok,I.len⟩
theorem gone{M:Model}{A:Around}{E:Value->Shared->Prop}{i:Nat}{x:Str}{pos:Pos}{Q:Unit->Shared->Prop}(I:L2.Inv X pins σ H s)(hN:X.N.Nodup)(hi:X.N[i]?=some x)(hk:X.env.scope.names.lookup x=some .local)
  (q:∀s',L2.Inv X pins (σ.set i none) H s'->Q () s'):wpAny M A (do bindName X.env x .none;unbindBehindTheSuite X.env x pos) Q E s:=by
 obtain⟨m,hn,hl⟩:=id I.loc;obtain⟨oL,_,_,hoL,_⟩:=id hn;have hiσ:i<σ.length:=by rw[I.len];exact(Wa.mp hi).1
 refine wpAny_nameGoes_keeps hk hn (by rw[I.ok.kind];rfl) fun h' u hn' hs=>q _ ?_
 have lt:∀b o,X.s₀.heap.get? b=some o->b≠X.env.locals:=fun b o e=>Xf (Yb (Heap.lt_size e) I.ok.above);refine⟨I.ok,I.os,I.bare,⟨fun b o e n hb hx=>(hs.2 b (lt b o e)).trans (I.base.keep b o e n hb hx),fun b o e n hb hx=>?_,I.base.free,fun b o e hx=>?_,I.base.tups,I.base.frzs,I.base.tbls⟩,⟨_,hn',fun j y v' e1 e2 e3=>?_⟩,fun y c e=>?_,I.free,I.freeC,fun p hp=>?_,fun b o e=>?_,by simpa using I.len⟩
 ·obtain⟨sl,e1⟩:=I.base.slot b o e n hb hx;exact⟨sl,(hs.2 b (lt b o e)).trans e1⟩
 ·obtain⟨o',e1⟩:=I.base.there b o e hx;exact⟨o',(hs.2 b (lt b o e)).trans e1⟩
 ·by_cases hj:j=i
  ·subst hj;rw[Qh hiσ]at e2;cases e2
  ·rw[Zg (Ne.symm hj)]at e2;obtain⟨u',r',z⟩:=hl j y v' e1 e2 e3;refine⟨u',r',?_⟩;rcases z with⟨k,e⟩|⟨k,c,e,z⟩
   ·have ny:y≠x:=fun e=>hj (iU hN e1 (e ▸ hi));exact .inl ⟨k,(if_neg ny).trans e⟩
   ·exact .inr ⟨k,c,e,z.sameBut hs (I.cne y c e)⟩
 ·obtain⟨w',z⟩:=I.cell y c e;exact⟨w',z.sameBut hs (I.cne y c e)⟩
 ·obtain⟨e,n,ne,nf,d⟩:=I.pin p hp;exact⟨(hs.2 p.1 ne).trans e,n,ne,nf,d⟩
 ·refine(I.hok b o e).stay (fun c w' hc z=>(hs.2 c fun w=>?_).trans z) (fun _ z=>z) fun _ _ z=>z;rw[w]at hc;rcases hc with hc|hc
  ·rw[← hc,I.free]at e;cases e
  ·rw[I.free]at hc;cases hc
end
noncomputable def PSx(X:Cx)(sts:List Stmt)(t:(Addr->Hp->Prop)->TS):Prop:=∀(pins:List (Addr×Obj))(s:Shared)(σ:L2.St)(H:Hp)(D:Ends)(Ex:Addr->Hp->Prop),L2.Inv X pins σ H s->t Ex D σ H ->
 wpAny (model X.prog X.w) X.A (execs sts X.env) (SP X pins D) (fun e s'=>∃a H',e=.ref a/\L2.Inv X pins σ H' s'/\Ex a H') s
section
variable {X:Cx}{pins:List (Addr×Obj)}{σ:L2.St}{H:Hp}{s:Shared}
theorem xA{k:Nat}{f:Addr}{fd:FuncData}{ps:List Str}{sp:Sp}{Q:VK}{E:XK}{us:List Value}{vs:List V}(F:FnOk X.prog X.w X.K X.mg X.base (CXF X.prog X.w) k f fd ps sp)(hr:Room k X.A)(hb:L2.Binds X.K fd ps [])
  (I:L2.Inv X pins σ H s)(r:Vals vs us)(h:sp vs H Q E):wpAny (model X.prog X.w) X.A (call (.ref f) us) (EP X pins σ Q) (fun e s'=>∃a H',e=.ref a/\L2.Inv X pins σ H' s'/\E (.ref a) none H') s:=by
 have hl:us.length=ps.length:=r.length.symm.trans (F.len _ _ _ _ h);have hb':=hb s us I.kIn (by rw[Xe];exact hl)
 rw[Xe]at hb';refine wpAny_call (codeAny_mono (F.run _ _ _ _ ⟨us,[]⟩ us vs _ E hr I.env0 hb' r h) fun r s' z=>?_);cases r with
 | error e =>
  obtain⟨a,H',rfl,os,bare,un,hok,q⟩:=z;exact⟨a,H',rfl,I.call' os un hok bare nofun,q⟩
 | ok fl =>
  cases fl with
  | ret u=>exact I.after z
  | _=>exact z.elim
theorem lS(i:Nat){x y:Str}{k k':Nat}{ps:List Str}{sp:Sp}{e:Expr}{es:List Expr}{t:TA}{p py cp pos:Pos}(C:CalG X.prog X.w X.K X.mg X.base x k ps sp)(hr:Room k' X.A)(hg:Gl X x)(ha:PA X.nox (e::es) t)(hN:X.N.Nodup)
  (hk:k<=k':=by decide)(hi:X.N[i]?=some y:=by rfl)(hy:Loc X.env.scope y:=by first|exact Or.inl rfl|exact Or.inr rfl)(hf:X.fn y=true∨X.env.scope.names.lookup y=some .local:=by first|exact .inl rfl|exact .inr rfl|assumption)
  (hdb:(x == ("__debug__":Str))=false:=by decide) (he:starEach (e::es) X.env=(false,eval e X.env)::starEach es X.env:=by rfl) (hpl:(backTo cp (starEach es X.env)).any (·.1)=false:=by rfl)
  (hs:swapsWithSole [.Name y py] (.Call (.Name x p) (e::es) [] cp) pos.line X.env=pure false:=by rfl) (hw:swappedStores [.Name y py] (.Call (.Name x p) (e::es) [] cp) X.env=pure none:=by rfl) (h1:(assignEach [.Name y py] X.env).map (·.2)=[assign (.Name y py) X.env]:=by rfl) :
  PSx X [.Assign [.Name y py] (.Call (.Name x p) (e::es) [] cp) pos] fun Ex D σ H=>t σ H fun vs H1=>sp vs H1 (fun v H2=>D.nx (σ.set i (some v)) H2) fun u _ H2=>∃a,u=.ref a/\Ex a H2:=by
 intro pins s σ H D Ex I h;obtain⟨f,fd,F,hm,hkp,hb⟩:=C.ex;refine wpAny_execs_cons (wpAny_Assign_stores (wpAny_Call_Name_kw (fw I hg hm ?_ hdb)) hs hw);refine PySem.W.callWith_K (h₀:=X.base) I.ok.mod.kin hkp (wpAny_mono (ha cp pins s σ H _ (I.wish _) h) (fun us s1 zz=>?_) fun _ _ z=>False.elim z) he hpl;obtain⟨vs,H1,I1,r,q⟩:=zz;refine⟨I1.unwish.kIn,wpAny_mono (xA F (hr.mono hk) hb I1.unwish r q) (fun u s2 zz=>?_) fun u s2 zz=>?_⟩
 ·obtain⟨v,H2,I2,rv,q2⟩:=zz;rw[h1];exact thn (wpAny_assign_Name (iV I2 hN hi hy rv (fun s3 I3=>wpAny_execs_nil ⟨_,H2,I3,q2⟩) hf)) fun _ _ z=>z
 ·obtain⟨a,H2,rfl,I2,b,w,q2⟩:=zz;cases w;exact⟨a,H2,rfl,I2,q2⟩
theorem v7{c:Expr}{a b:List Stmt}{pos:Pos}{tc:TT}{ta tb:(Addr->Hp->Prop)->TS}(hc:PT X.nox c tc)(ha:PSx X a ta)(hb:PSx X b tb):PSx X [.If c a b pos] fun Ex D σ H=>tc σ H fun b H1=>if b=true then ta Ex D σ H1 else tb Ex D σ H1:=by
 intro pins s σ H D Ex I h;refine wpAny_execs_cons (wpAny_If (wpAny_mono (hc pins s σ H _ (I.wish _) h) (fun d s1 zz=>?_) fun _ _ z=>False.elim z));obtain⟨H1,I1,q⟩:=zz;cases d with
 | true =>
  refine thn (ha pins s1 σ H1 D Ex I1.unwish q) fun f s2 z=>?_;cases f with
  | next=>exact wpAny_execs_nil z
  | _=>exact z
 | false =>
  refine thn (hb pins s1 σ H1 D Ex I1.unwish q) fun f s2 z=>?_;cases f with
  | next=>exact wpAny_execs_nil z
  | _=>exact z
end
end VX
namespace VX
open PySem PySem.Spec PySem.W PyProof.Rows L2 VF
theorem om{H:Hp}{C e dx T:Addr}{a b:Value}:two (two H C e dx T a) C e dx T b=two H C e dx T b:=by
 funext x
 unfold two;by_cases h:x=T
 ·rw[h,ay,ay]
 ·rw[ao h,ao h];by_cases g:x=e
  ·rw[g,ay,ay]
  ·rw[ao g,ao h,ao g]
noncomputable def xB(C:Addr)(i:Nat)(tb:(Addr->Hp->Prop)->TS)(th:Addr->TS):TS:=fun D σ H=>tb (fun a H'=>∃dx T,T≠a/\H' a=some (.ext (yφ C a dx T))/\H' T=some (.ext (tφ T .none)) /\
 ∀T',H' T'=none->th a { nx:=fun σ' H2=>D.nx (σ'.set i none) H2,rt:=fun _ _=>False } (σ.set i (some (.ref a))) (two H' C a dx T' .none)) D σ H
section
variable {X:Cx}{C T f:Addr}{id ii sa ow B:String}{mB:List Value}
theorem v8(i:Nat){body:List Stmt}{b0:Stmt}{x n:Str}{p hp pos:Pos}{tb:(Addr->Hp->Prop)->TS}{th:Addr->TS}(xc:XC X.K C T f id ii sa ow B mB)(hbe:mB.contains (.type "BaseException")=true)(hst:X.stack=X.env::X.outer)(hfr:X.env.frame=some X.env.locals)
  (hb:PSx X body tb)(hg:Gl X x)(hm:X.mg x=some (.ref C))(hN:X.N.Nodup)(hh:∀a,PSs (mkd X (.ref a)) [b0] (th a))(hi:X.N[i]?=some n:=by rfl)(hl:X.env.scope.names.lookup n=some .local:=by rfl)(hdb:(x == ("__debug__":Str))=false:=by decide) :
  PS X (.Try body [.ExceptHandler (some (.Name x p)) (some n) [b0] hp] [] [] pos) (xB C i tb th):=by
 intro pins s σ H D I h;obtain⟨M,⟨_,_,_,_,_,_,_,_,_,_,_,_,_,l⟩,_⟩:=xc.ob;refine wpAny_Try_except (wpAny_mono (hb pins s σ H D _ I h) (fun f s1 q=>?_) fun v s1 z=>?_)
 ·cases f with
  | next=>exact wpAny_execs_nil q
  | _=>exact q
 obtain⟨a,H',rfl,I1,dx,T,ne,ea,eT,q⟩:=z;have fr:=I1.ok.frames;have sk:=I1.stack;have sf:=I1.stkFree;rw[hst]at fr sk sf;refine xu fr sk hfr ⟨(I1.hok a _ ea).1,ne,(I1.hok T _ eT).1⟩ (fun m=>by rw[sf T m]at eT;cases eT) fun h1 T' k1 z1 x1 old=>?_
 rw[← hst]at k1;have J1:=ol I1 k1 ⟨_,ea⟩ (.inr z1) (fun b m=>?_) x1
 ·have nT:H' T'=none:=I1.hok.fresh z1;have eA:∀fl,two H' C a dx T' fl a=some (.ext (yφ C a dx T')):=fun fl=>by unfold two;rw[ao (Ne.symm x1.ne),ay]
  refine land (S:={ s1 with heap:=h1 }) (fs:=frs X.stack) x1 fun h2 k2 x2=>?_;have J2:=ol J1 k2 ⟨_,eA _⟩ (.inl ⟨_,ay⟩) (fun b m=>.inr (.inl (Ze.mp m))) x2;rw[om]at J2;refine wpAny_handleBy_cons (codeAny_handlers_test (fw (X:=mkd X (.ref a)) (qW J2) hg hm ?_ hdb)) (by intro q;cases q)
  obtain⟨vs,sl,ee,_⟩:=x2.ex;refine wpAny_excMatches_sub_self (J2.kIn C _ l) ee rfl (by rw[Qd,hbe,Vf]) (codeAny_handlers_suite_as ?_)
  refine land (S:={ s1 with heap:=h2 }) (fs:=frs X.stack) x2 fun h3 k3 x3=>?_;have J3:=ol J2 k3 ⟨_,eA _⟩ (.inl ⟨_,ay⟩) (fun b m=>.inr (.inl (Ze.mp m))) x3;rw[om]at J3;refine iV (X:=mkd X (.ref a)) (v:=.ref a) (qW J3) hN hi (.inl hl) rfl (fun s4 I4=>?_) (.inr hl);refine wpAny_mono (hh a pins s4 _ _ _ I4 (q T' nT)) (fun f s5 z=>?_) fun _ _ z=>z.elim;cases f with
  | next =>
   obtain⟨σ',H2,I5,q5⟩:=z;exact gone (tE I.ok I5) hN hi hl fun s6 I6=>⟨_,H2,I6,q5⟩
  | ret u=>obtain⟨_,_,_,_,_,z⟩:=z;exact z.elim
  | brk=>obtain⟨_,_,_,z⟩:=z;exact z.elim
  | cont=>obtain⟨_,_,_,z⟩:=z;exact z.elim
 ·rcases Qf.mp m with m|m
  ·rw[Ze.mp m];exact .inr (.inr ⟨_,eT,old,let ⟨o,_,z,_⟩:=old;⟨o,z⟩⟩)
  ·exact .inl (Ze.mp m)
end
end VX
namespace VX
open PySem PySem.Spec PySem.W PyProof.Rows L2 VF
theorem qX{M:Model}{A:Around}{E:Value->Shared->Prop}{S:Shared}{C N a:Addr}{mr:List Value}{hd:Bool}{id:String}{o:Obj}{nv:Value}{Q:Unit->Shared->Prop}(c:XO S.heap C N mr hd id)(hb:mr.contains (.type "BaseException")=true)(ha:S.heap.get? a=some o)(hc:o.cls=.ref C)(q:Q () S) :
  wpAny M A (checkBuiltinCall "BaseException.__getattribute__" ⟨[.ref a,nv],[]⟩) Q E S:=by
 obtain⟨_,_,_,_,_,_,_,_,_,_,_,_,_,e0⟩:=c;obtain⟨H,gs,dr,tk,os⟩:=S;have k1:builtinKind "BaseException.__getattribute__"=some .slot:=by decide +kernel
 have k2:splitId "BaseException.__getattribute__"=some ("BaseException","__getattribute__"):=by decide +kernel
 have k3:=F.args_bexc_ga (.ref a) nv;have sb:∀{M:Model}{A:Around}{E:Value->Shared->Prop}{g:Array GenState}{d:Drawn}{t:Nat}{o:OsState}{R:Bool->Shared->Prop},R true ⟨H,g,d,t,o⟩->wpAny M A (isSubtype (.ref C) (.type "BaseException")) R E ⟨H,g,d,t,o⟩:=fun r=>wpAny_isSubtype_exc e0 (by rw[show(Value.ref C::mr).contains (.type "BaseException")=true by rw[Qd,hb,Vf]];exact r)
 have ld:∀{M:Model}{A:Around}{E:Value->Shared->Prop}{g:Array GenState}{d:Drawn}{t:Nat}{os:OsState}{R:Value->Shared->Prop},R (.ref C) ⟨H,g,d,t,os⟩->wpAny M A (typeOf (.ref a)) R E ⟨H,g,d,t,os⟩:=fun r=>by
  unfold typeOf
  wp_walk using wpAny_loadPart_at ha
  rw[hc];exact r
 unfold checkBuiltinCall;rw[k1];dsimp only;rw[k2];unfold isInstance
 wp_walk using ld,sb
 exact q
theorem xQ{P:Program}{W:World}{A:Around}{E:Value->Shared->Prop}{S:Shared}{K:Frag}{C N a:Addr}{mr:List Value}{hd ep:Bool}{id B:String}{o:Obj}{od:Option Obj}{n:Str}{v:Value}{Q:Value->Shared->Prop}(kin:K.In S.heap)(c:XO S.heap C N mr hd id)(hb:mr.contains (.type "BaseException")=true)(J:PySem.W.InstAt S.heap a o C od)
  (fb:ExcAttrFacts B)(ga:findIn K (.ref C) "__getattribute__"=some (some (.builtin "BaseException.__getattribute__")))(gt:findIn K (.ref C) "__getattr__"=some none)(fo:findObj K C od n=some (.value v))(hv:handedIn v=true)(q:Q v { S with toks:=S.toks+1 }) :
  wpAny (model P W) A (getAttr (.ref a) n ep) Q E S:=by
 obtain⟨H,gs,dr,tk,os⟩:=S;have ty:=J.type (M:=model P W);have l1:=looks_findIn (M:=model P W) kin ga;have l2:=looks_findIn (M:=model P W) kin gt;have l3:=looks_find (M:=model P W) kin J fo;have x0:(ep&&onTheHeap (Value.builtin "BaseException.__getattribute__"))=false:=by cases ep<;>rfl
 have x2:(Value.builtin "BaseException.__getattribute__" == Value.builtin "object.__getattribute__")=false:=by decide +kernel
 have x1:(onTheHeap (Value.ref C)&&Value.builtin "BaseException.__getattribute__" == Value.builtin "object.__getattribute__")=false:=by rw[x2];rfl
 have bd:=fb.ga.bind (.ref a);have ho:=handedOut_of hv;unfold getAttr getAttrBy
 wp_walk using ty.at,l1.at,l2.at
 refine codeAny_call_builtin fb.ga.plain F.entry_bexc_ga (qX (S:=⟨H,gs,dr,tk+1,os⟩) c hb J.at_ J.cls ?_)
 wp_walk using ty.at,l3.at
 exact q
end VX
namespace VX
open PySem PySem.Spec PySem.W PyProof.Rows L2 VF
structure XH(K:Frag)(C:Addr)(B:String):Prop where
 fb:ExcAttrFacts B
 ga:findIn K (.ref C) "__getattribute__"=some (some (.builtin "BaseException.__getattribute__"))
 gt:findIn K (.ref C) "__getattr__"=some none
 hd:hasDictIn K C=true
 ca:findIn K (.ref C) "__class__"=some (some (.builtin "object.__class__"))
 cn:specialIn K (.builtin "object.__class__") "__get__"=some (some (.builtin "getset_descriptor.__get__"))
 ck:takesIn K (.builtin "object.__class__")=some true
 cm:mroIn K C (.type "object")=some true
section
variable {K:Frag}{C T f a:Addr}{id ii sa ow B:String}{mB:List Value}{o od:Obj}
theorem v9{P:Program}{W:World}{A:Around}{E:Value->Shared->Prop}{S:Shared}{Q:Option Value->Shared->Prop}(xc:XC K C T f id ii sa ow B mB)(hbe:mB.contains (.type "BaseException")=true)(xh:XH K C B)(kin:K.In S.heap)(J:PySem.W.InstAt S.heap a o C (some od))(q:Q (some (.ref C)) { S with toks:=S.toks+1 }) :
  wpAny (model P W) A (getAttr? (.ref a) "__class__") Q E S:=by
 obtain⟨N,c⟩:=xc.cls kin;have fo:findObj K C (some od) "__class__"=some (.bind (.builtin "getset_descriptor.__get__") (.builtin "object.__class__")):=findObj_data (by obtain⟨cd,hc,_⟩:=any_some xh.hd;rw[hc];rfl) xh.ca xh.cn xh.ck
 obtain⟨H,gs,dr,tk,os⟩:=S;have ty:=J.type (M:=model P W);have l1:=looks_findIn (M:=model P W) kin xh.ga;have l2:=looks_findIn (M:=model P W) kin xh.gt;have l3:=looks_find (M:=model P W) kin J fo;have x0:(false&&onTheHeap (Value.builtin "BaseException.__getattribute__"))=false:=rfl;have x2:(Value.builtin "BaseException.__getattribute__" == Value.builtin "object.__getattribute__")=false:=by decide +kernel
 have x1:(onTheHeap (Value.ref C)&&Value.builtin "BaseException.__getattribute__" == Value.builtin "object.__getattribute__")=false:=by rw[x2];rfl
 have bd:=xh.fb.ga.bind (.ref a);unfold getAttr?;unfold getAttrBy? getAttrBy
 wp_walk using ty.at,l1.at,l2.at
 refine codeAny_call_builtin xh.fb.ga.plain F.entry_bexc_ga (qX (S:=⟨H,gs,dr,tk+1,os⟩) c (by rw[Qd,hbe,Vf]) J.at_ J.cls ?_)
 wp_walk using ty.at,l3.at
 have ho:handedOut (.ref C)=pure (.ref C):=handedOut_of rfl;refine class_get (s:=⟨H,gs,dr,tk+1,os⟩) (ox:=o) (od:=some od) kin J xh.cm ?_
 wp_walk
 exact q
theorem qY(xc:XC K C T f id ii sa ow B mB)(hbe:mB.contains (.type "BaseException")=true)(xh:XH K C B):KitX K (.ref a) (.ref C) (fun h=>PySem.W.InstAt h a o C (some od)) where
 ty:=fun _ _ _ J=>J.type
 it:=fun M h kin _ A' Q' E' s' k q=>by
  obtain⟨N,⟨_,_,_,_,_,_,_,_,_,_,_,_,_,l⟩,_⟩:=xc.ob;unfold isType loadHead;exact wpAny_bind (wpAny_loadPart (k C _ (kin C _ l)) (wpAny_pure q))
 ne:=fun h tp dd its n sl kin ht=>by
  obtain⟨N,⟨_,_,_,_,_,_,_,_,_,_,_,_,_,l⟩,_⟩:=xc.ob;by_cases w:C=tp
  ·rw[← w,kin C _ l]at ht;exact absurd (congrArg Obj.data (Option.some.inj ht)) nofun
  ·simpa using w
 ca:=fun kin J q=>v9 xc hbe xh kin J q
end
theorem on:∀{cs:List Addr}{us:List Value},Vals (cs.map V.ref) us->us=cs.map Value.ref
 | [],_,.nil=>rfl
 | c::cs,_,.cons r rr=>by
  cases (show _=Value.ref c from r);rw[on rr];rfl
noncomputable def qZ(K:Frag)(C:Addr):List V->Hp->VK->Prop:=fun vs H Q=>∃a dx T fs b cv,vs=[.ref a,.ref cv]/\H a=some (.ext (yφ C a dx T))/\H dx=some (.xd fs)/\(kitOne K (.ref C) (.ref cv)=some b∨∃cs:List Addr,H cv=some (.tup (cs.map V.ref))/\kitAny K (.ref C) (cs.map Value.ref)=some b)/\Q (.bl b) H
noncomputable def tXA(C:Addr)(n:Str)(te:TE):TE:=fun σ H Q=>te σ H fun x H1=>∃a dx T fs v,x=.ref a/\H1 a=some (.ext (yφ C a dx T))/\H1 dx=some (.xd fs)/\fs.lookup n=some v/\Q v H1
section
variable {X:Cx}{K:Frag}{C T f a dx:Addr}{id ii sa ow B:String}{mB:List Value}{pins:List (Addr×Obj)}{σ:L2.St}{H:Hp}{s:Shared}{fs:List (Str×V)}
theorem x_at(I:L2.Inv X pins σ H s){T':Addr}(ea:H a=some (.ext (yφ C a dx T')))(ex:H dx=some (.xd fs)):∃(o od:Obj)(mA:Str->Option Value),PySem.W.InstAt s.heap a o C (some od)/\(∀n,lookIn n od=some (mA n))/\∀n,RelO (fs.lookup n) (mA n):=by
 obtain⟨vs,sl,z,_⟩:=(I.hok a _ ea).1;obtain⟨mA,ns,r⟩:=(show ObjOk X.prog X.w H s.heap dx (.xd fs) from I.hok dx _ ex);obtain⟨od,z2,l⟩:=jL ns;exact⟨_,od,mA,⟨z,rfl,rfl,z2⟩,l,r⟩
theorem j8(h:X.K=K)(xc:XC K C T f id ii sa ow B mB)(hbe:mB.contains (.type "BaseException")=true)(xh:XH K C B):CallR X (.builtin "isinstance") (qZ K C):=by
 intro pins s σ H vs us Q I r q;subst h;obtain⟨a,dx,T',fs,b,cv,rfl,ea,ex,hc,q⟩:=q;obtain⟨o,od,mA,J,_⟩:=x_at I ea ex;cases r with
 | cons r1 r2 =>
  cases r2 with
  | cons r2 r3 =>
   cases r3;cases (show _=Value.ref a from r1);cases (show _=Value.ref cv from r2);have en:∀tk,EP X pins σ Q (.bool b) { s with toks:=tk }:=fun tk=>⟨.bl b,H,I.tok tk,rfl,q⟩;rcases hc with hc|⟨cs,ec,hc⟩
   ·exact kia_one (qY xc hbe xh) I.kIn J hc nofun en
   ·obtain⟨_,us,rv,p⟩:=(show ObjOk X.prog X.w H s.heap cv (.tup (cs.map V.ref)) from I.hok cv _ ec);have eu:=on rv;subst eu;obtain⟨o',p1,p2,n,p3⟩:=p;obtain⟨c1,c2,c3,c4⟩:=o';cases p2;cases p3;exact kia_tup (qY xc hbe xh) I.kIn J p1 hc nofun en
theorem wa{e:Expr}{n:Str}{pos:Pos}{te:TE}(h:X.K=K)(xc:XC K C T f id ii sa ow B mB)(hbe:mB.contains (.type "BaseException")=true)(xh:XH K C B)(fn:findIn K (.ref C) n=some none)(he:PE X e te)(hb:attributeBase e n X.env (eval e X.env)=eval e X.env:=by rfl):PE X (.Attribute e n pos) (tXA C n te):=by
 intro pins s σ H Q I q;subst h;refine rY hb (thn (he pins s σ H _ I q) fun u s1 zz=>?_);obtain⟨x,H1,I1,rx,a,dx,T',fs,v,rfl,ea,ex,l,q⟩:=zz;cases (show u=Value.ref a from rx);obtain⟨o,od,mA,J,lk,rl⟩:=x_at I1 ea ex;obtain⟨u,hu,ru⟩:=RelO.some_of (v:=v) (o:=mA n) (by rw[← l];exact rl n)
 obtain⟨N,c⟩:=xc.cls I1.kIn;exact xQ I1.kIn c (by rw[Qd,hbe,Vf]) J xh.fb xh.ga xh.gt (findObj_own xh.hd fn rfl (by rw[lk,hu])) (oN ru) ⟨v,H1,I1.tok _,ru,q⟩
end
end VX
namespace VX
open PySem PySem.Spec PySem.W PyProof.Rows L2 VF
inductive Ox where
 | o (x:Ot)|x (st:En)
noncomputable abbrev FX:=En->Option Ox
noncomputable def XAt(C:Addr)(n:Str)(H:Hp)(a:Addr):Prop:=∃dx T,T≠a/\H a=some (.ext (yφ C a dx T))/\H dx=some (.xd [(n,.non)])/\H T=some (.ext (tφ T .none))
noncomputable def OutX(K:Frag)(C:Addr)(n:Str)(Z O:AS)(H:Hp)(st:En)(σ:L2.St)(Dn:Ends)(Ex:Addr->Hp->Prop):Ox->Prop
 | .o o=>Out K Z O H st σ Dn o
 | .x st'=>∀a H1 H' O',Ext O H O' H1->Kq st σ st' σ->ER K st' σ H1 O' Z->H1 a=none->Same H1 H'->XAt C n H' a->Ex a H'
noncomputable def RdX(K:Frag)(C:Addr)(n:Str)(t:(Addr->Hp->Prop)->TS)(F:FX):Prop:=∀(st:En)(σ:L2.St)(H:Hp)(O Z:AS)(Dn:Ends)(Ex:Addr->Hp->Prop),ER K st σ H O Z->∀r,F st=some r->OutX K C n Z O H st σ Dn Ex r->t Ex Dn σ H
noncomputable abbrev tXC(sp:Sp)(i:Nat)(ta:TA):(Addr->Hp->Prop)->TS:=fun Ex D σ H=>ta σ H fun vs H1=>sp vs H1 (fun v H2=>D.nx (σ.set i (some v)) H2) fun u _ H2=>∃a,u=.ref a/\Ex a H2
noncomputable abbrev tXI(tc:TT)(ta tb:(Addr->Hp->Prop)->TS):(Addr->Hp->Prop)->TS:=fun Ex D σ H=>tc σ H fun b H1=>if b=true then ta Ex D σ H1 else tb Ex D σ H1
noncomputable def jg(R:List D->Option Bool)(g:List D->Option Rz)(fa:FA)(i:Nat):FX:=fun st=>(fa st).bind fun x=>(b6 x.1 x.2).bind fun y=>if R y.1=some true then some (.x y.2) else(bF (cX g fa) i st).bind fun o=>some (.o o)
noncomputable def xIf(f:FT)(F G:FX):FX:=fun st=>(f st).bind fun x=>if x.1=true then F x.2 else G x.2
section
variable {K:Frag}{C:Addr}{n:Str}{R:List D->Option Bool}{g:List D->Option Rz}{ta:TA}{fa:FA}{i j:Nat}
theorem q8{E':XK}(ha:RdA K ta fa):RdE K (fun σ H Q=>ta σ H fun vs H1=>spG K C n R g vs H1 Q E') (cX g fa):=by
 intro st σ H O Z Q E r0 st' h q;refine bsP h fun rs st1 e1 h=>bsP h fun ds st2 e2 h=>bsO h fun z e3 h=>?_;cases h;refine ha st σ H O Z _ E rs st1 e1 fun vs H1 O1 x1 k1 E1 rvs=>?_;obtain⟨O2,x2,k2,E2,el⟩:=rvs.esc E1 e2;refine .inl ⟨U O2 Z,ds,z,el,E2.liv,e3,fun v H3 s hres=>?_⟩;obtain⟨E3,rv3⟩:=hres.rv E2 s;exact q v H3 O2 ((x1.trans x2).trans (Same.ext s)) (k1.trans k2) E3 rv3 (hres.fsh.back (x1.trans x2))
theorem oq(ha:RdA K ta fa):RdX K C n (tXC (spG K C n R g) i ta) (jg R g fa i):=by
 intro st σ H O Z D Ex E r h q;refine bsP h fun rs st1 e1 h=>bsP h fun ds st2 e2 h=>?_;dsimp only at h;by_cases w:R ds=some true
 ·rw[if_pos w]at h;cases h;refine ha st σ H O Z _ E rs st1 e1 fun vs H1 O1 x1 k1 E1 rvs=>?_;obtain⟨O2,x2,k2,E2,el⟩:=rvs.esc E1 e2;exact .inr ⟨U O2 Z,ds,el,E2.liv,w,fun e H' z=>⟨e,rfl,q e H1 H' O2 (x1.trans x2) (k1.trans k2).kq E2 z.new z.old z.obj⟩⟩
 ·rw[if_neg w]at h;refine bsO h fun o e3 h=>?_;cases h;exact aV (q8 ha) st σ H O Z D E o e3 q
theorem OutX.trans{Z O O1:AS}{H H1:Hp}{st st1:En}{σ:L2.St}{Dn:Ends}{Ex:Addr->Hp->Prop}{r:Ox}(h:OutX K C n Z O H st σ Dn Ex r)(x:Ext O H O1 H1)(k:Kq st σ st1 σ):OutX K C n Z O1 H1 st1 σ Dn Ex r:=by
 cases r with
 | o o=>exact Out.trans (show Out K Z O H st σ Dn o from h) x k
 | x s=>exact fun a H2 H' O' x2 k2=>h a H2 H' O' (x.trans x2) (k.trans k2)
theorem xC{tc:TT}{f:FT}{t u:(Addr->Hp->Prop)->TS}{F G:FX}(hc:RdT K tc f)(h1:RdX K C n t F)(h2:RdX K C n u G):RdX K C n (tXI tc t u) (xIf f F G):=by
 intro st σ H O Z D Ex E r h q;refine bsP h fun b st1 e1 h=>hc st σ H O Z _ E b st1 e1 fun H1 O1 x1 k1 E1=>?_;cases b with
 | true=>exact h1 st1 σ H1 O1 Z D Ex E1 r h (q.trans x1 k1.kq)
 | false=>exact h2 st1 σ H1 O1 Z D Ex E1 r h (q.trans x1 k1.kq)
theorem q9{st:En}{σ:L2.St}{H:Hp}{O Z:AS}{v:Option V}(E:ER K st σ H O Z)(e:st[i]?=some Sl.e):ER K st (σ.set i v) H O Z:=by
 have ne:∀(k:Nat)(s:Sl),st[k]?=some s->s≠Sl.e->(σ.set i v)[k]?=σ[k]?:=fun k s h hs=>Zg fun w=>by
  rw[← w,e]at h;cases h;exact hs rfl
 have no:∀(s:Sl) d,s.ow=some d->s≠Sl.e:=fun s d h w=>by rw[w]at h;cases h
 refine⟨by simpa using E.len,fun k d h=>?_,fun k s d h o=>?_,fun k l s t d d' p h1 o1 h2 o2 z1 z2=>?_,E.dis,E.liv⟩
 ·rw[ne k _ h nofun];exact E.val k d h
 ·rw[ne k s h (no s d o)];exact E.own k s d h o
 ·rw[ne k s h1 (no s d o1)]at z1;rw[ne l t h2 (no t d' o2)]at z2;exact E.uni k l s t d d' p h1 o1 h2 o2 z1 z2
noncomputable def ph(F:FX)(i j:Nat):FS:=fun st=>(F st).bind fun r=>match r with
 | .o o=>some o
 | .x s=>match s[i]? with
  | some .e=>if i=j then none else(i8 j (.v (.bl true)) s).bind fun s'=>some (.nx s')
  | _=>none
set_option tactic.hygienic true in
theorem wc{tb:(Addr->Hp->Prop)->TS}{th:Addr->TS}{F:FX}(hb:RdX K C n tb F)
  (hh:∀a σ H (D:Ends),XAt C n H a->σ[i]?=some (some (.ref a))->(∀H',Same H H'->D.nx (σ.set j (some (.bl true))) H')->th a D σ H):RdS K (xB C i tb th) (ph F i j):=by
 intro st σ H O Z D E o e q;refine bsO e fun r e1 e=>hb st σ H O Z D _ E r e1 ?_;cases r with
 | o x=>cases e;exact q
 | x s =>
  intro a H1 H' O' x1 k1 E1 na sm xa;obtain⟨dx,T,ne,ea,ex,eT⟩:=xa;refine⟨dx,T,ne,ea,eT,fun T' nT=>?_⟩;dsimp only at e;split at e
  ·rename_i ei
   by_cases ij:i=j
   ·rw[if_pos ij]at e;cases e
   rw[if_neg ij]at e;refine bsO e fun s' e2 e=>?_;cases e;obtain⟨t,f1,f2,rfl⟩:=gC e2;have li:i<σ.length:=by rw[← E1.len];exact(Wa.mp ei).1
   have n1:T'≠a:=fun w=>by rw[w,ea]at nT;cases nT
   have n2:dx≠a:=fun w=>by rw[w,ea]at ex;cases ex
   have n3:dx≠T':=fun w=>by rw[w,nT]at ex;cases ex
   refine hh a _ _ _ ⟨dx,T',n1,?_,?_,?_⟩ (Qh li) fun H2 s2=>?_
   ·unfold two;rw[ao (Ne.symm n1),ay]
   ·unfold two;rw[ao n3,ao n2];exact ex
   ·unfold two;rw[ay]
   ·have sm2:Same H1 H2:=fun b o z=>s2 b o (by
     have w1:b≠a:=fun w=>by rw[w,na]at z;cases z
     have w2:b≠T':=fun w=>by rw[w]at z;rw[sm _ _ z]at nT;cases nT
     unfold two;rw[ao w2,ao w1];exact sm b o z)
    have es:((σ.set i (some (.ref a))).set j (some (.bl true))).set i none=(σ.set j (some (.bl true))).set i none:=by
     rw[List.set_comm _ _ ij,List.set_set]
    show D.nx (((σ.set i (some (.ref a))).set j (some (.bl true))).set i none) H2;rw[es];have E2:=(E1.same sm2).asg (d:=.bl true) (v:=.bl true) f1 (.bl true);have e3:(s.set j (.v (.bl true)))[i]?=some Sl.e:=by rw[Zg (Ne.symm ij)];exact ei
    refine q _ H2 O' (x1.trans (Same.ext sm2)) ((k1.trans (i9 f1 f2)).trans ⟨rfl,fun k d h=>⟨Zg fun w=>?_,d,h⟩⟩) (q9 E2 e3);rw[← w,e3]at h;cases h
  ·cases e
end
end VX
namespace VX
open PySem PySem.Spec PySem.W PyProof.Rows L2 VF
noncomputable def xR:R2:=fun x y H Q=>y=.non/\Q (.bl (decide (x=.non))) H
noncomputable def uL(K:Frag)(C:Addr)(n:Str)(i j:Nat)(s b1 b2 b3:Addr):TS:=pH (nu (tOp xR (tXA C n (gu i)) (tC .non)) (nu (tCB (qZ K C) (cE (gu i) (cE (tC (.ref s)) km))) (ua (tCB (qZ K C) (cE (gu i) (cE (u4 (cE (tC (.ref b1)) (cE (tC (.ref b2)) (cE (tC (.ref b3)) km)))) km)))))) (jJ j)
theorem tF{K:Frag}{C:Addr}{n:Str}{i j:Nat}{s b1 b2 b3:Addr}(h1:kitOne K (.ref C) (.ref s)=some true)(h2:kitAny K (.ref C) [.ref b1,.ref b2,.ref b3]=some false)(a:Addr)(σ:L2.St)(H:Hp)(D:Ends)(xa:XAt C n H a)(hi:σ[i]?=some (some (.ref a)))
  (q:∀H',Same H H'->D.nx (σ.set j (some (.bl true))) H'):uL K C n i j s b1 b2 b3 D σ H:=by
 obtain⟨dx,T,ne,ea,ex,eT⟩:=xa;refine⟨.ref a,hi,a,dx,T,_,.non,rfl,ea,ex,List.lookup_cons_self,rfl,true,by rw[decide_eq_true rfl],?_⟩
 rw[if_pos rfl];refine⟨.ref a,hi,a,dx,T,_,true,s,rfl,ea,ex,.inl h1,true,rfl,?_⟩;rw[if_pos rfl];refine⟨.ref a,hi,Nat.le_of_ble_eq_true rfl,fun p np=>?_⟩;have na:a≠p:=fun w=>by rw[← w,ea]at np;cases np
 have nd:dx≠p:=fun w=>by rw[← w,ex]at np;cases np
 refine⟨a,dx,T,_,false,p,rfl,(ao na).trans ea,(ao nd).trans ex,.inr ⟨[b1,b2,b3],ay,h2⟩,false,rfl,q _ fun b o z=>?_⟩;exact(ao fun w=>by rw[w,np]at z;cases z).trans z
end VX
namespace VX
open PySem PySem.Spec PySem.W PyProof.Rows L2 VF
structure CalI(P:Program)(w:World)(K:Frag)(mg:Str->Option Value)(base:Heap)(C f:Addr)(n:Str)(k:Nat):Prop where
 ex:∃fd ps ds,FnOk P w K mg base CX0 k f fd ps (spI C n)/\L2.Binds K fd ps ds/\Vals [V.non] ds
structure Xs(K:Frag)(mg:Str->Option Value)(x n sx x1 x2 x3:Str)(C S f b1 b2 b3:Addr)(id ii sa ow B:String)(mB:List Value):Prop where
 xc:XC K C S f id ii sa ow B mB
 hbe:mB.contains (.type "BaseException")=true
 xh:XH K C B
 fn:findIn K (.ref C) n=some none
 k1:kitOne K (.ref C) (.ref S)=some true
 k2:kitAny K (.ref C) [.ref b1,.ref b2,.ref b3]=some false
 mC:mg x=some (.ref C)
 mS:mg sx=some (.ref S)
 m1:mg x1=some (.ref b1)
 m2:mg x2=some (.ref b2)
 m3:mg x3=some (.ref b3)
section
variable {P:Program}{w:World}{K:Frag}{mg:Str->Option Value}{base:Heap}{N:List Str}{qual:Str}{scope:Scope}{g:Addr}{cd:Value}{A:Around}{outer:List Env}{s0:Shared}{H0:Hp}{E:XK}{C S f b1 b2 b3:Addr}{id ii sa ow B:String}{mB:List Value}{x n sx x1 x2 x3:Str}
theorem uM{k k':Nat}{p cp pos:Pos}(Y:Xs K mg x n sx x1 x2 x3 C S f b1 b2 b3 id ii sa ow B mB)(i:CalI P w K mg base C f n k)(hr:Room k' (A.deeper (envOfC qual scope s0.heap.objs.size g cd)))(hg:Gl (d8 (CXF P w) P w K mg base N qual scope g cd A outer s0 H0 E) x)(hk:k+1<=k':=by decide)(hdb:(x == ("__debug__":Str))=false:=by decide) :
  PS (d8 (CXF P w) P w K mg base N qual scope g cd A outer s0 H0 E) (.Raise (some (.Call (.Name x p) [] [] cp)) none pos) (tR C n E):=by
 obtain⟨fd,ps,ds,F,hb,hd⟩:=i.ex;exact qU Y.xc Y.hbe F (hr.mono hk) hb hd hg Y.mC hdb
end
section
variable {X:Cx}{K:Frag}{mg:Str->Option Value}{C S f b1 b2 b3:Addr}{id ii sa ow B:String}{mB:List Value}{x n sx x1 x2 x3:Str}
theorem kO{u:Str}{c:Addr}{pos:Pos}(hg:Gl X u)(hm:X.mg u=some (.ref c))(hd:(u == ("__debug__":Str))=false:=by decide):PE X (.Name u pos) (tC (.ref c)):=rP hg hm rfl hd
theorem xD(i j:Nat){e z:Str}{q:Nat}{kt:Nat}{p0 p1 p2 p3 p4 p5 p6 p7 p8 p9 p10 p11 p12 p13 p14 p15 p16 p17 p18:Pos}{xi:Str}(hi0:xi="isinstance")(hK:X.K=K)(hmg:X.mg=mg)(Y:Xs K mg x n sx x1 x2 x3 C S f b1 b2 b3 id ii sa ow B mB)(hN:X.N.Nodup)(hz:mg xi=none)
  (v:∀p,PE X (.Name e p) (gu i))(hj:X.N[j]?=some z)(hl:X.env.scope.names.lookup z=some .local)(g0:Gl X xi)(gS:Gl X sx)(g1:Gl X x1)(g2:Gl X x2)(g3:Gl X x3)
  (d:(sx == ("__debug__":Str))=false/\(x1 == ("__debug__":Str))=false/\(x2 == ("__debug__":Str))=false/\(x3 == ("__debug__":Str))=false) :
  PSs X [.Assign [.Name z p0] (.BoolOp .And [.Compare (.Attribute (.Name e p1) n p2) [.Is] [.Constant .none q p3] p4,.Call (.Name xi p5) [.Name e p6,.Name sx p7] [] p8,.UnaryOp .Not (.Call (.Name xi p9) [.Name e p10,.Tuple [.Name x1 p11,.Name x2 p12,.Name x3 p13] kt p14] [] p15) p16] p17) p18] (uL K C n i j S b1 b2 b3):=by
 subst hK hmg hi0;exact ar (dG (fZ (fz ms (wa rfl Y.xc Y.hbe Y.xh Y.fn (v _)) iW (bm _)) (fZ (aL (j8 rfl Y.xc Y.hbe Y.xh) g0 hz L2.boot_isinstance (aj (v _) (aj (kO gS Y.mS d.1) ag))) (iY (uY (aL (j8 rfl Y.xc Y.hbe Y.xh) g0 hz L2.boot_isinstance (aj (v _) (aj (gW (aj (kO g1 Y.m1 d.2.1) (aj (kO g2 Y.m2 d.2.2.1) (aj (kO g3 Y.m3 d.2.2.2) ag)))) ag))))))) (kl hN hj (.inl hl) (.inr hl)))
end
end VX
namespace VX
open PySem PySem.Spec PySem.W PyProof.Rows L2 VF
noncomputable def xE(s:Stmt)(i:Nat):Stmt:=match s with
 | .ClassDef _ _ _ b _ _ _ _ _ _ _=>b.getD i (.Pass ⟨0,0,0,0⟩)
 | _=>.Pass ⟨0,0,0,0⟩
noncomputable def xS(es:Array DictEntry):Bool:=es.toList.all fun e=>match e.key with|.str _ _=>true|_=>false
theorem nsOk_of{K:Frag}{N:Addr}{nc:Value}{nd:Option Addr}{es:Array DictEntry}{ep:Nat}{ns:Array (Option Value)}(l:K.lookup N=some ⟨nc,nd,.dict es ep,ns⟩)(t:xS es=true):nsOkIn K N=true:=by
 unfold nsOkIn;rw[l];exact Array.all_toList.symm.trans t
noncomputable abbrev mVE:List Value:=[.type "ValueError",.type "Exception",.type "BaseException",.type "object"]
theorem xc_mk{K:Frag}{C S f N:Addr}{a b:Str}{bs:List Value}{sn:List Str}{su:List Value}{x:Bool}{y:Option Bool}{z:Option Addr}{p0 p1 p2 p3 p5:Option Value}{c0:Value}{dd:Option Addr}{cd:ClassData}{sl:Array (Option Value)}{o:Obj}
  (l:K.lookup C=some (excClassObj a b C N bs (.ref S::mVE) true sn su x y z p0 p1 p2 p3 p5 "ValueError.__new__"))(n:nsOkIn K N=true)(i:nsIn K N "__init__"=some (some (.ref f)))(l2:K.lookup S=some { cls:=c0,dict:=dd,data:=.cls cd,slots:=sl })(n2:nsOkIn K cd.ns=true)(i2:nsIn K cd.ns "__init__"=some none)
  (st:findIn K (.ref C) "__setattr__"=some (some (.builtin "object.__setattr__"))) (lf:K.lookup f=some o) (fc:o.cls=.type "function") (kp:keepIn K (.ref C)=true):XC K C S f "ValueError.__new__" "ValueError.__init__" "object.__setattr__" "object" "ValueError" mVE :=
 ⟨⟨N,⟨a,b,bs,sn,su,x,y,z,p0,p1,p2,p3,p5,l⟩,n,i⟩,⟨c0,dd,cd,sl,l2,n2,i2⟩,PySem.F.excBase_ValueError,PySem.F.store_ValueError,st,⟨o,lf,fc⟩,kp⟩
theorem xF{K:Frag}{h:Heap}{mg:Str->Option Value}{C S f b1 b2 b3:Addr}{x n sx x1 x2 x3:Str}(X:K.In h)(G:h.Ns mainGlobals mg)(xc:XC K C S f "ValueError.__new__" "ValueError.__init__" "object.__setattr__" "object" "ValueError" mVE)
  (aC:nsIn K mainGlobals x=some (some (.ref C)))(aS:nsIn K mainGlobals sx=some (some (.ref S)))(a1:nsIn K mainGlobals x1=some (some (.ref b1)))(a2:nsIn K mainGlobals x2=some (some (.ref b2)))(a3:nsIn K mainGlobals x3=some (some (.ref b3)))
  (ga:findIn K (.ref C) "__getattribute__"=some (some (.builtin "BaseException.__getattribute__"))) (gt:findIn K (.ref C) "__getattr__"=some none) (hd:hasDictIn K C=true) (ca:findIn K (.ref C) "__class__"=some (some (.builtin "object.__class__")))
  (cn:specialIn K (.builtin "object.__class__") "__get__"=some (some (.builtin "getset_descriptor.__get__"))) (ck:takesIn K (.builtin "object.__class__")=some true) (cm:mroIn K C (.type "object")=some true) (fn:findIn K (.ref C) n=some none)
  (k1:kitOne K (.ref C) (.ref S)=some true) (k2:kitAny K (.ref C) [.ref b1,.ref b2,.ref b3]=some false):Xs K mg x n sx x1 x2 x3 C S f b1 b2 b3 "ValueError.__new__" "ValueError.__init__" "object.__setattr__" "object" "ValueError" mVE :=
 ⟨xc,by decide,⟨PySem.F.attr_ValueError,ga,gt,hd,ca,cn,ck,cm⟩,fn,k1,k2,mg_of X G aC,mg_of X G aS,mg_of X G a1,mg_of X G a2,mg_of X G a3⟩
noncomputable abbrev BdI(P:Program)(w:World)(K:Frag)(mg:Str->Option Value)(base:Heap)(qual n:Str)(C f:Addr)(st:Stmt)(N:List Str)(k:Nat):Prop :=
 ∀{cdv:Value}{A:Around}{outer:List Env}{s:Shared}{H:Hp}{E:XK},Room k (A.deeper (envOfC qual (ak st) s.heap.objs.size f cdv))->PSs (d8 CX0 P w K mg base N qual (ak st) f cdv A outer s H E).nox (bK st) (xz C n)
end VX
namespace VL
open PySem L2 VF
noncomputable def Lw(x:Str):Prop:=∀c∈x.cps.toList,97<=c/\c<=122
noncomputable abbrev letS:Str:=Str.ofString "abcdefghijklmnopqrstuvwxyz"
theorem jh:letS.cps.toList=List.range' 97 26:=by decide +kernel
noncomputable def Nm(x:Str):Prop:=1<=x.length/\x.length<=6/\Lw x
theorem rb{ys:List Str}(h:∀y∈ys,∃c,y=⟨#[c]⟩/\97<=c/\c<=122):Lw (Txt.join (Str.ofString "") ys):=by
 intro c hc;have e:Txt.join (Str.ofString "") ys=Str.join (Str.ofString "") ys:=StrLaws.glued_eq_join _ _;rw[e]at hc;rcases(PyProof.Rows.mem_join _ _ _).mp hc with⟨t,ht,hct⟩|⟨_,z⟩
 ·obtain⟨c',rfl,h1⟩:=h t ht;have:c=c':=by simpa using hct
  rw[this];exact h1
 ·have hE:(Str.ofString "").cps.toList=[]:=by decide +kernel
  rw[hE]at z;cases z
theorem join_ones{ys:List Str}(h:∀y∈ys,∃c,y=(⟨#[c]⟩:Str)):(Txt.join (Str.ofString "") ys).length=ys.length :=
 PySem.W.KT.join_ones ys fun a ha=>by obtain⟨c,rfl⟩:=h a ha;rfl
theorem rc{ys:List Str}(h:∀y∈ys,∃c,y=(⟨#[c]⟩:Str)):(ys.map (·.length)).sum=ys.length:=by
 induction ys with
 | nil=>rfl
 | cons y r ih =>
  obtain⟨c,rfl⟩:=h y Wd;rw[List.map_cons,List.sum_cons,ih fun z hz=>h z (Xc _ hz)];show 1+r.length=r.length+1;lia
theorem Lw.app{x y:Str}(a:Lw x)(b:Lw y):Lw (x++y):=fun c hc=>by
 rw[Str.cps_append,Zj]at hc;rcases Qf.mp hc with z|z
 ·exact a c z
 ·exact b c z
theorem rd:Lw (Str.ofString ""):=fun c hc=>by
 have hE:(Str.ofString "").cps.toList=[]:=by decide +kernel
 rw[hE]at hc;cases hc
noncomputable def word(s:Nat):Str:=Txt.mul ⟨#[97+s % 26]⟩ (1+((s:Nat):Int) / 26)
theorem fH(s:Nat):(word s).cps.toList=List.replicate (1+s / 26) (97+s % 26):=by
 unfold word;rw[PyProof.Rows.mul_one_list];have e:(1+((s:Nat):Int) / 26).toNat=1+s / 26:=by lia
 rw[e]
theorem lT(s:Nat):(word s).length=1+s / 26:=by
 have:=congrArg List.length (fH s);rw[Vd,Wf]at this;exact this
theorem re{a b:Nat}(h:word a=word b):a=b:=by
 have h1:(word a).cps.toList=(word b).cps.toList:=by rw[h]
 rw[fH,fH]at h1;have h2:=congrArg List.length h1;rw[Vd,Vd]at h2;have h3:=congrArg (fun l=>l[0]?) h1;simp only[Yf]at h3;rw[if_pos (by lia),if_pos (by lia)]at h3
 have h4:=Option.some.inj h3;lia
theorem tG{s:Nat}(h:s<=120):Nm (word s):=by
 refine⟨by rw[lT];lia,by rw[lT];lia,fun c hc=>?_⟩
 rw[fH]at hc;have:=List.eq_of_mem_replicate hc;lia
theorem pi{xs:List Str}{s:Nat}(h:∀j,j<s->word j∈xs):s<=xs.length:=by
 have:=ly ((List.range s).map word) xs (by
  show List.Pairwise _ _;rw[List.pairwise_map];exact List.nodup_range.imp fun hne e=>hne (re e)) (fun x hx=>by
  obtain⟨j,hj,rfl⟩:=Yi.mp hx
  exact h j (Zi.mp hj))
 rw[Xb,List.length_range]at this;exact this
theorem we(s:Nat):atI letS.cps.toList (((s:Nat):Int) % 26)=some (97+s % 26):=by
 have e:((s:Nat):Int) % 26=(((s % 26:Nat)):Int):=by lia
 rw[e];refine gx ?_;rw[jh,List.getElem?_range' (by lia)]
 congr 1;lia
theorem ji{α:Type}:∀{l:List α}{i:Nat}(h:i<l.length),(l[i]::l.eraseIdx i).Perm l
 | _::_,0,_=>List.Perm.refl _
 | x::r,i+1,h=>(List.Perm.swap x _ _).trans (List.Perm.cons x (ji (l:=r) (i:=i) (Nat.lt_of_succ_lt_succ h)))
noncomputable abbrev minus:Str:=Str.ofString "-"
noncomputable def bd(p:Bool×Str):Str:=if p.1 then minus++p.2 else p.2
theorem dP:minus.cps.toList=[45]:=by decide +kernel
theorem jj{p:Bool×Str}(h:Nm p.2):1<=(bd p).length/\(bd p).length<=7:=by
 have e:minus.length=1:=by decide +kernel
 unfold bd;split
 ·rw[Str.length_append,e];have:=h.1;have:=h.2.1;lia
 ·have:=h.1;have:=h.2.1;lia
theorem tH{x y:Str}(h:x.cps.toList=y.cps.toList):x=y:=by
 cases x;cases y;have:_=_:=Array.toList_inj.mp h;exact congrArg Str.mk this
theorem rg{n:Str}:Txt.slice (minus++n) (some 1) none=n:=by
 have e:minus.length=1:=by decide +kernel
 rw[PyProof.Rows.slice_from_eq (i:=1) (b:=((minus++n).length:Int)) (by decide) (by rw[Str.length_append,e];lia) rfl]
 refine tH ?_;show((List.drop 1 (minus++n).cps.toList).take _).toArray.toList=_;rw[Str.cps_append,Zj,dP,Str.length_append,e];show List.take _ n.cps.toList=_;refine Qj ?_;rw[Wf];show n.length<=_;lia
theorem rh{p:Bool×Str}(h:Nm p.2):∃c,atI (bd p).cps.toList 0=some c/\(V.str ⟨#[c]⟩=V.str minus↔p.1=true):=by
 obtain⟨t,n⟩:=p;have em:(⟨#[45]⟩:Str)=minus:=by decide +kernel
 cases t with
 | true =>
  refine⟨45,?_,fun _=>rfl,fun _=>by rw[em]⟩
  show atI (minus++n).cps.toList 0=_;rw[Str.cps_append,Zj,dP];exact wG
 | false =>
  have h1:1<=n.length:=h.1;cases e:n.cps.toList with
  | nil =>
   have:=congrArg List.length e;rw[Wf]at this;have h2:n.cps.size=n.length:=rfl;rw[h2]at this;simp at this;lia
  | cons c r =>
   refine⟨c,?_,fun z=>?_,fun z=>by cases z⟩
   ·show atI n.cps.toList 0=_;rw[e];exact wG
   ·have hc:=h.2.2 c (by show c∈n.cps.toList;rw[e];exact Wd)
    have z1:(⟨#[c]⟩:Str)=minus:=V.str.inj z;rw[← em]at z1;have z2:c=45:=by simpa using z1
    lia
theorem pj{d:Int}{n:Str}(d0:0<=d)(d1:d<2):Txt.mul minus d++n=bd (decide (d=1),n):=by
 have h:d=0∨d=1:=by lia
 rcases h with rfl|rfl
 ·show(if (0:Int)<1 then Str.empty else _)++n=_;rw[if_pos (by decide)]
  exact Str.empty_append n
 ·rfl
theorem tI{n:Str}(h:Nm n):∃c r,n.cps.toList=c::r/\c≠45:=by
 cases e:n.cps.toList with
 | nil =>
  have h1:1<=n.length:=h.1;have:=congrArg List.length e;rw[Wf]at this;have h2:n.cps.size=n.length:=rfl;rw[h2]at this;simp at this;lia
 | cons c r =>
  refine⟨c,r,rfl,fun z=>?_⟩;have hc:=h.2.2 c (by rw[e];exact Wd)
  lia
theorem pk{t:Bool}{n:Str}(h:Nm n):Txt.startswith (bd (t,n)) minus=t:=by
 have e1:minus.length=1:=by decide +kernel
 have hl:=(jj (p:=(t,n)) h).1;unfold Txt.startswith
 rw[decide_eq_true (show 0+minus.length<=(bd (t,n)).length by lia),Bool.true_and,StrLaws.subAt_eq,dP,e1]
 cases t with
 | true =>
  show((((minus++n).cps.toList).drop 0).take 1 == [45])=true;rw[Str.cps_append,Zj,dP];rfl
 | false =>
  obtain⟨c,r,e,hc⟩:=tI h;show(((n.cps.toList).drop 0).take 1 == [45])=false;rw[e];show([c] == [45])=false;simp[hc]
end VL
namespace K47
open PySem L2 VF VF22 VX
noncomputable section
noncomputable def ir:FS :=
  (bx (fBM "str" nV (ac 0) (ad (fC (.str "-")) av)))
noncomputable def cy:List D->Option Rz:=bu ir 1 1
noncomputable def j9:FS :=
  (bx (fIf (aX (cg cy (ad (ac 0) av))) (fSl bSl (ac 0) (aZ (fC (.int 1))) oNo) (ac 0)))
noncomputable def hW:List D->Option Rz:=bu j9 1 1
noncomputable def jk:FS :=
  (bx (fIf (aX (cg cy (ad (ac 0) av))) (cg hW (ad (ac 0) av)) (fOp bC (fC (.str "-")) (ac 0))))
noncomputable def dQ:List D->Option Rz:=bu jk 1 1
noncomputable def eU:FS :=
  (bx (fCB gK (ad (ef 1 [] (n8 (ac 0)) (gN 0) fN (cg dQ (ad (ac 0) av))) av)))
noncomputable def cj:List D->Option Rz:=bu eU 1 1
noncomputable def wf:FS :=
  (aJ (sIf (gA (aX (kM (fC (.int 0)) (bi bLe (ac 1) (bi bLt (ac 2) (cJ bLe (fCB gI (ad (ac 0) av)))))))) jf bO)
  (bx (fOp bH (fOp bH (fSl bW (ac 0) oNo (aZ (ac 1))) (cX cj (ad (fSl bW (ac 0) (aZ (ac 1)) (aZ (ac 2))) av))) (fSl bW (ac 0) (aZ (ac 2)) oNo))))
noncomputable def kP:List D->Option Rz:=bu wf 3 3
noncomputable def rj:FS :=
  (aJ (sIf (gA (aX (kM (fC (.int 0)) (bi bLe (ac 1) (bi bLt (ac 2) (bi bLe (ac 3) (bi bLt (ac 4) (cJ bLe (fCB gI (ad (ac 0) av)))))))))) jf bO)
  (bx (fOp bH (fOp bH (fOp bH (fOp bH (fSl bW (ac 0) oNo (aZ (ac 1))) (fSl bW (ac 0) (aZ (ac 3)) (aZ (ac 4)))) (fSl bW (ac 0) (aZ (ac 2)) (aZ (ac 3)))) (fSl bW (ac 0) (aZ (ac 1)) (aZ (ac 2)))) (fSl bW (ac 0) (aZ (ac 4)) oNo))))
noncomputable def gM:List D->Option Rz:=bu rj 5 5
noncomputable def jl:FS :=
  (aJ (sIf (aX (fOp bEq (fOp bIx (ac 0) (fC (.int 0))) (fC (.str "turn")))) (bx (kM (fC (.int 0)) (bi bLe (fOp bIx (ac 0) (fC (.int 1))) (bi bLt (fOp bIx (ac 0) (fC (.int 2))) (cJ bLe (ac 1)))))) bO)
  (bx (kM (fC (.int 0)) (bi bLe (fOp bIx (ac 0) (fC (.int 1))) (bi bLt (fOp bIx (ac 0) (fC (.int 2))) (bi bLe (fOp bIx (ac 0) (fC (.int 3))) (bi bLt (fOp bIx (ac 0) (fC (.int 4))) (cJ bLe (ac 1)))))))))
noncomputable def cw:List D->Option Rz:=bu jl 2 2
noncomputable def eV:FS :=
  (aJ (sIf (aX (fOp bEq (fOp bIx (ac 0) (fC (.int 0))) (fC (.str "-")))) (bx (fSl bSl (ac 0) (aZ (fC (.int 1))) oNo)) bO)
  (bx (fOp bC (fC (.str "-")) (ac 0))))
noncomputable def cR:List D->Option Rz:=bu eV 1 1
noncomputable def gO:FS :=
  (bx (fOp bH (fOp bH (fSl bW (ac 0) oNo (aZ (ac 1))) (fCB gK (ad (ef 1 [] (fIA (sT (fSl bW (ac 0) (aZ (ac 1)) (aZ (ac 2))))) (gN 0) fN (cg cR (ad (ac 0) av))) av))) (fSl bW (ac 0) (aZ (ac 2)) oNo)))
noncomputable def dR:List D->Option Rz:=bu gO 3 3
noncomputable def fW:FS :=
  (aJ (bF (fOp bH (fSl bW (ac 0) oNo (aZ (ac 1))) (fSl bW (ac 0) (aZ (ac 3)) (aZ (ac 4)))) 5)
  (bx (fOp bH (fOp bH (fOp bH (ac 5) (fSl bW (ac 0) (aZ (ac 2)) (aZ (ac 3)))) (fSl bW (ac 0) (aZ (ac 1)) (aZ (ac 2)))) (fSl bW (ac 0) (aZ (ac 4)) oNo))))
noncomputable def dA:List D->Option Rz:=bu fW 6 5
noncomputable def dg:FS :=
  (aJ (sIf (aX (fOp bEq (fOp bIx (ac 1) (fC (.int 0))) (fC (.str "turn")))) (bx (cX dR (ad (ac 0) (ad (fOp bIx (ac 1) (fC (.int 1))) (ad (fOp bIx (ac 1) (fC (.int 2))) av))))) bO)
  (bx (cX dA (ad (ac 0) (ad (fOp bIx (ac 1) (fC (.int 1))) (ad (fOp bIx (ac 1) (fC (.int 2))) (ad (fOp bIx (ac 1) (fC (.int 3))) (ad (fOp bIx (ac 1) (fC (.int 4))) av))))))))
noncomputable def bA:List D->Option Rz:=bu dg 2 2
noncomputable def jm:FS :=
  (bx (fO (ad (fCB kK (ad (ac 0) av)) (ad (fC (.int 0)) (ad (fC (.int 0)) (ad (fC (.int 1)) (ad (fC (.int 0)) av)))))))
noncomputable def gi:List D->Option Rz:=bu jm 1 1
noncomputable def gj:FS :=
  (aJ (sIf (i6 (aX (fOp bEq (fOp bIx (ac 0) (fC (.int 2))) (fC (.int 0)))) (aX (fOp bLt (fOp bIx (ac 0) (fC (.int 1))) (fCB gI (ad (fOp bIx (ac 0) (fC (.int 0))) av))))) (aJ (bF (fOp bIx (fOp bIx (ac 0) (fC (.int 0))) (fOp bIx (ac 0) (fC (.int 1)))) 2)
  (aJ (jE gJ (fOp bC (fOp bIx (ac 0) (fC (.int 1))) (fC (.int 1))) 0 (fC (.int 1)))
  (sIf (aX (fOp bGe (ac 2) (fOp vy (fC (.int 10)) (fC (.int 18))))) (jE gJ (ac 2) 0 (fC (.int 2))) (jE gJ (fOp jb (fOp bC (fOp bC (fOp d4 (fOp bIx (ac 0) (fC (.int 3))) (fC (.int 40013))) (fOp jb (ac 2) (fC (.int 1000003)))) (fC (.int 1))) (fC (.int 2147483647))) 0 (fC (.int 3)))))) bO)
  (aJ (sIf (aX (fOp bGt (fOp bIx (ac 0) (fC (.int 2))) (fC (.int 0)))) (aJ (bF (fOp jb (fOp bIx (ac 0) (fC (.int 2))) (ac 1)) 3)
  (aJ (jE gJ (fOp mJ (fOp bIx (ac 0) (fC (.int 2))) (ac 1)) 0 (fC (.int 2)))
  (bx (ac 3)))) bO)
  (aJ (jE gJ (fOp bC (fOp bIx (ac 0) (fC (.int 4))) (fC (.int 1))) 0 (fC (.int 4)))
  (aJ (jE gJ (fOp jb (fOp bC (fOp bC (fOp d4 (fOp bIx (ac 0) (fC (.int 3))) (fC (.int 48271))) (fC (.int 12820163))) (fOp bIx (ac 0) (fC (.int 4)))) (fC (.int 2147483647))) 0 (fC (.int 3)))
  (bx (fOp jb (fOp mJ (fOp jb (fOp d4 (fOp bC (fOp jb (fOp bIx (ac 0) (fC (.int 3))) (fC (.int 65521))) (fC (.int 1))) (fOp bC (fOp mJ (fOp bIx (ac 0) (fC (.int 3))) (fC (.int 65521))) (fC (.int 7919)))) (fC (.int 1000003))) (fC (.int 7))) (ac 1)))))))
noncomputable def au:D->List D->Option (Rz×D):=bV gj 4 2
noncomputable def eW:FS :=
  (aJ (bF (fCB kK (ad (ac 1) av)) 2)
  (aJ (bF (fO av) 3)
  (aJ (sWh (aX (fOp bNe (ac 2) (fO av))) (gF (fM isL fE 3 (ad (fM isL kG 2 (ad (fIO au 0 (ad (fCB gI (ad (ac 2) av)) av)) av)) av))) 300)
  (bx (ac 3)))))
noncomputable def cT:D->List D->Option (Rz×D):=bV eW 4 2
noncomputable def jn:FS :=
  (bx (fCB gK (ad (ef 1 [0] (fIA (fIO cT 0 (ad (ac 1) av))) (gN 0) fN (fOp bC (fOp d4 (fC (.str "-")) (fIO au 1 (ad (fC (.int 2)) av))) (ac 0))) av)))
noncomputable def gk:D->List D->Option (Rz×D):=bV jn 2 2
noncomputable def fX:FS :=
  (bx (fBM "str" qv (fC (.str "")) (ad (ef 1 [0] (jD (ad (ac 1) av)) (gN 0) fN (fOp bIx (fC (.str "abcdefghijklmnopqrstuvwxyz")) (fIO au 1 (ad (fC (.int 26)) av)))) av)))
noncomputable def b4:D->List D->Option (Rz×D):=bV fX 2 2
noncomputable def jo:FS :=
  (aJ (sIf (aX (fOp bNe (ac 1) (fC (.str "")))) (bx (fOp bC (ac 1) (fIO b4 0 (ad (fOp bC (fC (.int 1)) (fIO au 0 (ad (fC (.int 2)) av))) av)))) bO)
  (aJ (sIf (aX (fOp bEq (fIO au 0 (ad (fC (.int 7)) av)) (fC (.int 0)))) (aJ (bF (fO (qx ["to","turn","turns","ring","rings","odd","ours","row","rows","cuts","knots","cover"])) 2)
  (aJ (bF (fOp bC (ac 2) (fO (qx ["change","joins","theirs","one","two","home","none","open","keep","tox","onex"]))) 2)
  (bx (fOp bIx (ac 2) (fIO au 0 (ad (fC (.int 23)) av)))))) bO)
  (bx (fIO b4 0 (ad (fOp bC (fC (.int 1)) (fIO au 0 (ad (fC (.int 6)) av))) av)))))
noncomputable def gl:D->List D->Option (Rz×D):=bV jo 3 2
noncomputable def eY:FS :=
  (aJ (bF (fC (.str "")) 2)
  (aJ (sIf (aX (fOp bEq (fIO au 0 (ad (fC (.int 3)) av)) (fC (.int 0)))) (bF (fIO b4 0 (ad (fOp bC (fC (.int 1)) (fIO au 0 (ad (fC (.int 4)) av))) av)) 2) bO)
  (aJ (bF (fO av) 3)
  (aJ (mF (jD (ad (ac 1) av)) (gN 4) (aJ (bF (fIO gl 0 (ad (ac 2) av)) 5)
  (aJ (bF (fC (.int 0)) 6)
  (aJ (sWh (aX (fOp bIn (ac 5) (ac 3))) (aJ (bF (fOp d4 (fOp bIx (fC (.str "abcdefghijklmnopqrstuvwxyz")) (fOp jb (ac 6) (fC (.int 26)))) (fOp bC (fC (.int 1)) (fOp mJ (ac 6) (fC (.int 26))))) 5)
  (bF (fOp bC (ac 6) (fC (.int 1))) 6)) 200)
  (gF (fM isL fE 3 (ad (ac 5) av)))))))
  (bx (ac 3))))))
noncomputable def eZ:D->List D->Option (Rz×D):=bV eY 7 2
noncomputable def dX:FS :=
  (aJ (sIf (aX (fOp bEq (ac 1) (fC (.str "turn")))) (aJ (bF (fIO au 0 (ad (ac 2) av)) 3)
  (bx (lA (ad (fC (.str "turn")) (ad (ac 3) (ad (fOp bC (fOp bC (ac 3) (fC (.int 1))) (fIO au 0 (ad (fOp jF (ac 2) (ac 3)) av))) av)))))) bO)
  (aJ (bF (fIO au 0 (ad (fOp jF (ac 2) (fC (.int 1))) av)) 3)
  (aJ (bF (fOp bC (fOp bC (ac 3) (fC (.int 1))) (fIO au 0 (ad (fOp jF (fOp jF (ac 2) (fC (.int 1))) (ac 3)) av))) 4)
  (aJ (bF (fOp bC (ac 4) (fIO au 0 (ad (fOp jF (ac 2) (ac 4)) av))) 5)
  (aJ (bF (fOp bC (fOp bC (ac 5) (fC (.int 1))) (fIO au 0 (ad (fOp jF (ac 2) (ac 5)) av))) 6)
  (bx (lA (ad (fC (.str "change")) (ad (ac 3) (ad (ac 4) (ad (ac 5) (ad (ac 6) av))))))))))))
noncomputable def cB:D->List D->Option (Rz×D):=bV dX 7 3
noncomputable def bT:FE :=
  (fOp jF (fIO au 1 (ad (fOp bC (ac 2) (fC (.int 5))) av)) (fC (.int 2)))
noncomputable def cU:FS :=
  (aJ (bF (fOp bC (fBM "list" bIndex (fO (ad (fC (.str "turn")) (ad (fC (.str "change")) av))) (ad (ac 1) av)) (fC (.int 1))) 3)
  (aJ (bF (fO (ad (ac 1) av)) 4)
  (aJ (sIf (lz (aX (fOp bLt (ac 2) (ac 3))) (aX (fOp bEq (fIO au 0 (ad (fC (.int 6)) av)) (fC (.int 0))))) (gF (fM isL iP 4 (ad (ef 1 [0,2] (jD (ad (fOp d4 (fC (.int 2)) (ac 3)) av)) (gN 0) fN bT) av))) (bF (fCB kK (ad (fIO cB 0 (ad (ac 1) (ad (ac 2) av))) av)) 4))
  (aJ (sIf (aX (fOp bEq (fIO au 0 (ad (fC (.int 2)) av)) (fC (.int 1)))) (aJ (bF (fOp bC (fC (.int 1)) (fIO au 0 (ad (fOp d4 (fC (.int 2)) (ac 3)) av))) 5)
  (aJ (bF (fOp d4 (fOp bC (fIO au 0 (ad (fC (.int 1000)) av)) (fC (.int 1))) (fOp vy (fC (.int 10)) (fC (.int 20)))) 6)
  (jE gJ (fOp bIx (fO (ad (fOp jF (fOp bIx (ac 4) (ac 5)) (fC (.int 1))) (ad (fOp bC (fOp bIx (ac 4) (ac 5)) (fC (.int 1))) (ad (fOp jF (fIO au 0 (ad (fOp bC (ac 2) (fC (.int 5))) av)) (fC (.int 2))) (ad (ac 6) (ad (fUn wQ (ac 6)) av)))))) (fIO au 0 (ad (fC (.int 5)) av))) 4 (ac 5)))) bO)
  (bx (fCB gK (ad (ac 4) av)))))))
noncomputable def cV:D->List D->Option (Rz×D):=bV cU 7 3
noncomputable def iu(gs:List D->Option Rz):FS :=
  (aJ (sIf (aX (fOp (vC false) (ac 1) (fC .non))) (bx (fOp (vC false) (ac 0) (fC .non))) bO)
  (aJ (sIf (lz (aX (fCB bQ (ad (ac 1) (ad (fC (.ty "bool")) av)))) (aX (fCB bQ (ad (ac 0) (ad (fC (.ty "bool")) av))))) (bx (iq (fCB bQ (ad (ac 1) (ad (fC (.ty "bool")) av))) (iq (fCB bQ (ad (ac 0) (ad (fC (.ty "bool")) av))) (fOp bEq (ac 0) (ac 1))))) bO)
  (aJ (sIf (aX (fCB bQ (ad (ac 1) (ad (fC (.ty "int")) av)))) (bx (iq (fCB bQ (ad (ac 0) (ad (fC (.ty "int")) av))) (fOp bEq (ac 0) (ac 1)))) bO)
  (aJ (sIf (aX (fCB bQ (ad (ac 1) (ad (fC (.ty "str")) av)))) (bx (iq (fCB bQ (ad (ac 0) (ad (fC (.ty "str")) av))) (fOp bEq (ac 0) (ac 1)))) bO)
  (aJ (sIf (lz (aX (fOp bNe (fCB bQ (ad (ac 1) (ad (fC (.ty "tuple")) av))) (fCB bQ (ad (ac 0) (ad (fC (.ty "tuple")) av))))) (aX (fOp bNe (fCB bQ (ad (ac 1) (ad (fC (.ty "list")) av))) (fCB bQ (ad (ac 0) (ad (fC (.ty "list")) av)))))) (bx (fC (.bl false))) bO)
  (bx (iq (fOp bEq (fCB gI (ad (ac 0) av)) (fCB gI (ad (ac 1) av))) (fCB vJ (ad (ef 1 [0,1] (jD (ad (fCB gI (ad (ac 1) av)) av)) (gN 0) fN (cg gs (ad (fOp bIx (ac 1) (ac 0)) (ad (fOp bIx (ac 2) (ac 0)) av)))) av)))))))))
noncomputable def mZ:FT :=
  (gA (aX (kM (fC (.int 0)) (bi bLe (ac 1) (bi bLt (ac 2) (cJ bLe (fCB gI (ad (ac 0) av))))))))
noncomputable def m5:List D->Option Bool:=rzV mZ 3 3
noncomputable def jp:FT :=
  (gA (aX (kM (fC (.int 0)) (bi bLe (ac 1) (bi bLt (ac 2) (bi bLe (ac 3) (bi bLt (ac 4) (cJ bLe (fCB gI (ad (ac 0) av))))))))))
noncomputable def jq:List D->Option Bool:=rzV jp 5 5
noncomputable def iw:FS :=
  (aJ (bF (fC .non) 2)
  (aJ (bF (fC (.bl false)) 3)
  (aJ (ph (xIf (aX (fOp bEq (fOp bIx (ac 1) (fC (.int 0))) (fC (.str "turn")))) (jg m5 kP (ad (ac 0) (ad (fOp bIx (ac 1) (fC (.int 1))) (ad (fOp bIx (ac 1) (fC (.int 2))) av))) 2) (jg jq gM (ad (ac 0) (ad (fOp bIx (ac 1) (fC (.int 1))) (ad (fOp bIx (ac 1) (fC (.int 2))) (ad (fOp bIx (ac 1) (fC (.int 3))) (ad (fOp bIx (ac 1) (fC (.int 4))) av))))) 2)) 4 3)
  (bx (lA (ad (ac 3) (ad (ac 2) av)))))))
noncomputable def bP:List D->Option Rz:=bu iw 5 2
noncomputable def kc:FS :=
  (aJ (sIf (gA (aX (cg cw (ad (ac 1) (ad (fCB gI (ad (ac 0) av)) av))))) (bx (lA (ad (fC (.bl true)) (ad (fC .non) av)))) bO)
  (bx (lA (ad (fC (.bl false)) (ad (cX bA (ad (ac 0) (ad (ac 1) av))) av)))))
noncomputable def dF:List D->Option Rz:=bu kc 2 2
noncomputable def ou:FS :=
  (gF (fM isL fE 4 (ad (fIO cV 1 (ad (fOp bIx (fO (ad (fC (.str "turn")) (ad (fC (.str "change")) av))) (fIO au 1 (ad (fC (.int 2)) av))) (ad (ac 2) av))) av)))
noncomputable def oy:FS :=
  (sIf (gA (aX (cg (cA 4) (ad (cX bP (ad (ac 3) (ad (ac 6) av))) (ad (cX dF (ad (ac 3) (ad (ac 6) av))) av))))) (bx (fC (.bl false))) bO)
noncomputable def rn:FS :=
  (aJ (bF (cX gi (ad (ac 0) av)) 1)
  (aJ (bF (fIO au 1 (ad (fC (.int 10)) av)) 2)
  (aJ (sIf (aX (fOp bEq (fIO au 1 (ad (fC (.int 4)) av)) (fC (.int 0)))) (bF (fIO au 1 (ad (fC (.int 41)) av)) 2) bO)
  (aJ (bF (fIO gk 1 (ad (fIO eZ 1 (ad (ac 2) av)) av)) 3)
  (aJ (bF (fO av) 4)
  (aJ (mF (jD (ad (fC (.int 2)) av)) (gN 5) ou)
  (aJ (mF (fIA (fOp bH (ac 4) (fSl bW (ac 4) oNo (aZ (fC (.int 1)))))) (gN 6) oy)
  (bx (fC (.bl true))))))))))
end
end K47
namespace K47
open PySem L2 VF VF22 VX
noncomputable def top(i:Nat):Stmt:=PySem.Challenge.pw_strandwright_k47_stretches_turned_and_ch.main.body.getD i (.Pass ⟨0,0,0,0⟩)
noncomputable abbrev hX:Stmt:=top 1
noncomputable abbrev kQ:Stmt:=top 2
noncomputable abbrev hZ:Stmt:=top 3
noncomputable abbrev cK:Stmt:=top 4
noncomputable abbrev rp:Stmt:=top 12
noncomputable abbrev kR:Stmt:=top 13
noncomputable abbrev m6:Stmt:=top 15
noncomputable abbrev gm:Stmt:=top 16
noncomputable abbrev gP:Stmt:=top 17
noncomputable abbrev ia:Stmt:=top 18
noncomputable abbrev dS:Stmt:=top 19
noncomputable abbrev m7:Stmt:=top 20
noncomputable abbrev m8:Stmt:=top 21
noncomputable abbrev gn:Stmt:=top 22
noncomputable abbrev kS:Stmt:=top 23
noncomputable abbrev fI:Stmt:=top 24
noncomputable abbrev m9:Stmt:=top 25
noncomputable abbrev kT:Stmt:=top 26
noncomputable abbrev gp:Stmt:=top 27
noncomputable abbrev fJ:Stmt:=top 28
noncomputable abbrev iS:Stmt:=top 29
noncomputable abbrev kU:Stmt:=top 30
noncomputable abbrev rq:Stmt:=top 31
noncomputable abbrev wg:Stmt:=top 32
theorem kW:FnScope ["bead"] ["bead"] (ak hX):=fsc (by decide +kernel)
theorem ng:FnScope ["bead"] ["bead"] (ak kQ):=fsc (by decide +kernel)
theorem kX:FnScope ["bead"] ["bead"] (ak hZ):=fsc (by decide +kernel)
theorem iG:FnScope ["beads"] ["beads"] (ak cK):=fsc (by decide +kernel)
theorem rz:FnScope ["line","i","j"] ["line","i","j"] (ak rp):=fsc (by decide +kernel)
theorem nh:FnScope ["line","i","j","k","l"] ["line","i","j","k","l"] (ak kR):=fsc (by decide +kernel)
theorem pp:FnScope ["_law_deed","_law_many"] ["_law_deed","_law_many"] (ak m6):=fsc (by decide +kernel)
theorem jG:FnScope ["_law_bead"] ["_law_bead"] (ak gm):=fsc (by decide +kernel)
theorem lU:FnScope ["_law_line_here","_law_i","_law_j"] ["_law_line_here","_law_i","_law_j"] (ak gP):=fsc (by decide +kernel)
theorem sc_sLchanged:FnScope ["_law_line_here","_law_i","_law_j","_law_k","_law_l","_law_ahead"] ["_law_line_here","_law_i","_law_j","_law_k","_law_l"] (ak ia):=fsc (by decide +kernel)
theorem iH:FnScope ["_law_line_here","_law_deed"] ["_law_line_here","_law_deed"] (ak dS):=fsc (by decide +kernel)
theorem pq:FnScope ["_law_script"] ["_law_script"] (ak m7):=fsc (by decide +kernel)
theorem sc_sLpick:FnScope ["_law_flow_here","_law_many","_law_cell","_law_digit"] ["_law_flow_here","_law_many"] (ak m8):=fsc (by decide +kernel)
theorem sc_sLshuffled:FnScope ["_law_flow_here","_law_things","_law_left","_law_told"] ["_law_flow_here","_law_things"] (ak gn):=fsc (by decide +kernel)
theorem pr:FnScope ["_law_flow_here","_law_names_here"] ["_law_flow_here","_law_names_here"] (ak kS):=fsc (by decide +kernel)
theorem kY:FnScope ["_law_flow_here","_law_many"] ["_law_flow_here","_law_many"] (ak fI):=fsc (by decide +kernel)
theorem sc_sLname:FnScope ["_law_flow_here","_law_stem","_law_words"] ["_law_flow_here","_law_stem"] (ak m9):=fsc (by decide +kernel)
theorem sc_sLnames:FnScope ["_law_flow_here","_law_many","_law_stem","_law_names_here","_law_k","_law_name_here","_law_spare"] ["_law_flow_here","_law_many"] (ak kT):=fsc (by decide +kernel)
theorem sc_sLgooddeed:FnScope ["_law_flow_here","_law_word","_law_many","_law_i","_law_j","_law_k","_law_l"] ["_law_flow_here","_law_word","_law_many"] (ak gp):=fsc (by decide +kernel)
theorem sc_sLanydeed:FnScope ["_law_flow_here","_law_word","_law_many","_law_room","_law_deed","_law_at","_law_great"] ["_law_flow_here","_law_word","_law_many"] (ak fJ):=fsc (by decide +kernel)
theorem ni:FnScope ["_law_found","_law_due_here"] ["_law_found","_law_due_here"] (ak iS):=fsc (by decide +kernel)
theorem sc_sLasked:FnScope ["_law_line_here","_law_deed","_law_found","_law_refused","e"] ["_law_line_here","_law_deed"] (ak kU):=fsc (by decide +kernel)
theorem rA:FnScope ["_law_line_here","_law_deed"] ["_law_line_here","_law_deed"] (ak rq):=fsc (by decide +kernel)
theorem sc_slaw:FnScope ["_law_script","_law_flow_here","_law_many","_law_line_here","_law_some","_law_k","_law_deed"] ["_law_script"] (ak wg):=fsc (by decide +kernel)
structure Md(mg:Str->Option Value):Prop where
 n_all:mg "all"=none
 n_bool:mg "bool"=none
 n_int:mg "int"=none
 n_isinstance:mg "isinstance"=none
 n_len:mg "len"=none
 n_list:mg "list"=none
 n_range:mg "range"=none
 n_reversed:mg "reversed"=none
 n_str:mg "str"=none
 n_tuple:mg "tuple"=none
noncomputable abbrev kd:Stmt:=xE (top 9) 0
theorem tJ:FnScope ["self","at"] ["self","at"] (ak kd):=fsc (by decide +kernel)
end K47
namespace VF
open PySem L2
theorem kZ{i j:Int}(h:CMul i j):d4 (.int i) (.int j)=some (.int (i*j),false):=by
 have:nU (.int i) (.int j)=some (.int (i*j),false):=by
  show(if CMul i j then some (D.int (i*j),false) else none)=_;rw[if_pos h]
 unfold d4 orD;rw[this]
theorem rB{i j:Int}(h:0<j):jb (.int i) (.int j)=some (.int (i % j),false):=by
 show(if 0<j then some (D.int (i % j),false) else none)=_;rw[if_pos h]
theorem wj{i j:Int}(h:mq i j):mJ (.int i) (.int j)=some (.int (i / j),false):=by
 show(if mq i j then some (D.int (i / j),false) else none)=_;rw[if_pos h]
theorem ib{ds:List D}{i:Int}{d:D}(h:atI ds i=some d):bIx (.lst ds) (.int i)=some (d,false):=by
 have:qr (.lst ds) (.int i)=some (d,false):=by
  show(atI ds i).bind (fun d=>some (d,false))=_;rw[h];rfl
 unfold bIx orD;rw[this]
theorem ix_tup{ds:List D}{i:Int}{d:D}(h:atI ds i=some d):bIx (.tup ds) (.int i)=some (d,false):=by
 have e1:qr (.tup ds) (.int i)=none:=rfl;have:sE (.tup ds) (.int i)=some (d,false):=by
  show(atI ds i).bind (fun d=>some (d,false))=_;rw[h];rfl
 unfold bIx orD;rw[e1,this]
theorem dU{f:FT}{st s:En}{b c:Bool}(h:f st=some (b,s))(e:b=c):f st=some (c,s):=e ▸ h
theorem la{mm:D->D->D->Option D}{fe fi:FE}{i:Nat}{st s1 s2 s3:En}{r rk:Rs}{dv dk z z':D}{t t0:Sl}{x0:D}(h1:fe st=some (r,s1))(h2:esc r s1=some (dv,s2))(h0:s2[i]?=some t0)(h00:t0.ow=some x0)(h3:fi s2=some (rk,s3))(h4:cont s3 rk=some dk)(h5:s3[i]?=some t)(h6:t.ow=some z)(h7:mm z dk dv=some z'){s4:En}(h8:s3.set i (t.put z')=s4:=by rfl):jE mm fe i fi st=some (.nx s4):=by
 simp only[jE,h1,h2,h0,h00,h3,h4,h5,h6,h7,h8,Za]
end VF
namespace K47
open PySem L2 VF
noncomputable def Fl(ns:List Int)(i m sd c:Int):D:=.lst [.lst (ns.map D.int),.int i,.int m,.int sd,.int c]
noncomputable def bJ(φ:D):Prop:=∃ns i m sd c,φ=Fl ns i m sd c/\0<=i/\0<=m/\0<=sd/\0<=c
theorem tK(ns:List Int):gi [.fl (ns.map D.int)]=some (Fl ns 0 0 1 0,true):=rfl
theorem aU{φ : D}{n : Int}(hφ : bJ φ)(h0 : 0 < n)(h1 : n ≤ 1000) : ∃ d φ', au φ [.int n] = some ((.int d, false), φ') ∧ 0 ≤ d ∧ d < n ∧ bJ φ' := by
  obtain ⟨ns, i, m, sd, c, rfl, hi, hm, hs, hc⟩ := hφ;have sp : ∃ A B, gj = aJ A B ∧
     (∃ o i' m' sd', A [.io (Fl ns i m sd c), .v (.int n), .e, .e] = some (.nx [.io (Fl ns i' m' sd' c), .v (.int n), o, .e]) ∧ 0 ≤ i' ∧ 0 ≤ m' ∧ 0 ≤ sd') ∧
     (∀ o i m sd, 0 ≤ i → 0 ≤ m → 0 ≤ sd → ∃ d φ' s3, B [.io (Fl ns i m sd c), .v (.int n), o, .e] = some (.rt (.d (.int d)) [.io φ', .v (.int n), o, s3]) ∧ 0 ≤ d ∧ d < n ∧ bJ φ') := by
    refine ⟨_, _, rfl, ?_, ?_⟩
    · by_cases c1 : m = 0
      · subst c1
        by_cases c2 : i < ((ns.map D.int).length : Int)
        · obtain ⟨v, hv, hm', _⟩ := kA hi c2
          obtain ⟨z, _, rfl⟩ := List.mem_map.mp hm';have t2 : i6 (aX (fOp bEq (fOp bIx (ac 0) (fC (.int 2))) (fC (.int 0)))) (aX (fOp bLt (fOp bIx (ac 0) (fC (.int 1))) (fCB gI (ad (fOp bIx (ac 0) (fC (.int 0))) av)))) [.io (Fl ns i 0 sd c), .v (.int n), .e, .e] = some (true, [.io (Fl ns i 0 sd c), .v (.int n), .e, .e]) :=
            uB rfl (dU (b := decide (i < ((ns.map D.int).length : Int))) rfl (decide_eq_true c2))
          by_cases c3 : (10 : Int) ^ (18 : Int).toNat ≤ z
          · have p18 : (0 : Int) ≤ 10 ^ (18 : Int).toNat := by decide
            refine ⟨.v (.int z), i + 1, z, sd, ?_, by lia, by lia, hs⟩
            refine d5 t2 ?_;refine ap (bY (x := .int z) (aw rfl rfl rfl rfl (ib hv)) rfl) ?_;refine ap (s := [.io (Fl ns (i + 1) 0 sd c), .v (.int n), .v (.int z), .e]) rfl ?_;refine d5 (dU (b := decide ((10 : Int) ^ (18 : Int).toNat ≤ z)) (s := [.io (Fl ns (i + 1) 0 sd c), .v (.int n), .v (.int z), .e]) rfl (decide_eq_true c3)) ?_;rfl
          · refine ⟨.v (.int z), i + 1, 0, (sd * 40013 + z % 1000003 + 1) % 2147483647, ?_, by lia, by lia, Int.emod_nonneg _ (by decide)⟩
            refine d5 t2 ?_;refine ap (bY (x := .int z) (aw rfl rfl rfl rfl (ib hv)) rfl) ?_;refine ap (s := [.io (Fl ns (i + 1) 0 sd c), .v (.int n), .v (.int z), .e]) rfl ?_;refine eQ (dU (b := decide ((10 : Int) ^ (18 : Int).toNat ≤ z)) (s := [.io (Fl ns (i + 1) 0 sd c), .v (.int n), .v (.int z), .e]) rfl (decide_eq_false c3)) ?_;exact la (aw (aw (aw (aw rfl rfl rfl rfl (kZ (j := 40013) (.inr ⟨by decide, by decide⟩))) rfl rfl rfl rfl) rfl rfl rfl rfl) rfl rfl rfl rfl) rfl rfl rfl rfl rfl rfl rfl rfl
        · refine ⟨.e, i, 0, sd, ?_, hi, hm, hs⟩
          exact eQ (uB (s := [.io (Fl ns i 0 sd c), .v (.int n), .e, .e]) rfl (dU (b := decide (i < ((ns.map D.int).length : Int))) rfl (decide_eq_false c2))) rfl
      · refine ⟨.e, i, m, sd, ?_, hi, hm, hs⟩
        have e : decide (V.int m = V.int 0) = false := decide_eq_false fun z => c1 (V.int.inj z);exact eQ (xf (dU (b := decide (V.int m = V.int 0)) (s := [.io (Fl ns i m sd c), .v (.int n), .e, .e]) rfl e)) rfl
    · intro o i m sd hi hm hs
      by_cases c1 : 0 < m
      · refine ⟨m % n, Fl ns i (m / n) sd c, .v (.int (m % n)), ?_, Int.emod_nonneg _ (by lia), Int.emod_lt_of_pos _ h0, ⟨ns, i, m / n, sd, c, rfl, hi, Int.ediv_nonneg hm (by lia), hs, hc⟩⟩
        refine dw ?_;refine d5 (dU (b := decide (0 < m)) (s := [.io (Fl ns i m sd c), .v (.int n), o, .e]) rfl (decide_eq_true c1)) ?_;refine ap (s := [.io (Fl ns i m sd c), .v (.int n), o, .v (.int (m % n))]) (bY (aw rfl rfl rfl rfl (rB h0)) rfl) ?_;refine ap (s := [.io (Fl ns i (m / n) sd c), .v (.int n), o, .v (.int (m % n))]) (la (aw rfl rfl rfl rfl (wj ⟨h0, by lia⟩)) rfl rfl rfl rfl rfl rfl rfl rfl) ?_
        rfl
      · refine ⟨(((sd * 48271 + 12820163 + (c + 1)) % 2147483647 % 65521 + 1) * ((sd * 48271 + 12820163 + (c + 1)) % 2147483647 / 65521 + 7919) % 1000003 / 7) % n, Fl ns i m ((sd * 48271 + 12820163 + (c + 1)) % 2147483647) (c + 1), .e, ?_, ?_, ?_, ⟨ns, i, m, _, _, rfl, hi, hm, Int.emod_nonneg _ (by decide), by lia⟩⟩
        · refine ap (eQ (dU (b := decide (0 < m)) (s := [.io (Fl ns i m sd c), .v (.int n), o, .e]) rfl (decide_eq_false c1)) rfl) ?_
          refine ap (s := [.io (Fl ns i m sd (c + 1)), .v (.int n), o, .e]) rfl ?_;refine ap (s := [.io (Fl ns i m ((sd * 48271 + 12820163 + (c + 1)) % 2147483647) (c + 1)), .v (.int n), o, .e]) (la (aw (aw (aw (aw rfl rfl rfl rfl (kZ (j := 48271) (.inr ⟨by decide, by decide⟩))) rfl rfl rfl rfl) rfl rfl rfl rfl) rfl rfl rfl rfl) rfl rfl rfl rfl rfl rfl rfl rfl) ?_
          have a := Int.emod_nonneg ((sd * 48271 + 12820163 + (c + 1)) % 2147483647) (show (65521 : Int) ≠ 0 by decide)
          have b := Int.emod_lt_of_pos ((sd * 48271 + 12820163 + (c + 1)) % 2147483647) (show (0 : Int) < 65521 by decide)
          exact aO (aw (aw (aw (aw rfl rfl rfl rfl (kZ (.inl ⟨by lia, by lia⟩))) rfl rfl rfl rfl) rfl rfl rfl rfl) rfl rfl rfl (rB h0))
        · exact Int.emod_nonneg _ (by lia)
        · exact Int.emod_lt_of_pos _ h0
  obtain ⟨A, B, eF, ⟨o, i', m', sd', eA, hi', hm', hs'⟩, hB⟩ := sp;obtain ⟨d, φ', s3, eB, h2, h3, h4⟩ := hB o i' m' sd' hi' hm' hs';refine ⟨d, φ', ?_, h2, h3, h4⟩;refine bG (o := .rt (.d (.int d)) [.io φ', .v (.int n), o, s3]) rfl ?_ rfl;rw [eF];exact ap eA eB
end K47
namespace K47
open PySem L2 VF VL
theorem gq{φ:D}{k:Int}(hφ:bJ φ)(h0:0<=k)(h1:k<=100):∃x φ',b4 φ [.int k]=some ((.str x,false),φ')/\(x.length:Int)=k/\Lw x/\bJ φ':=by
 have hE:(Str.ofString "").length=0:=by decide +kernel
 have cl:=hV (fg:=gN 0) (fc:=fN) (k:=1) (fe:=fOp bIx (fC (.str "abcdefghijklmnopqrstuvwxyz")) (fIO au 1 (ad (fC (.int 26)) av)))
  (fun pre sb=>∃φ' ys,sb=[.e,.io φ']/\bJ φ'/\pre=ys.map D.str/\∀y∈ys,∃c,y=(⟨#[c]⟩:Str)/\97<=c/\c<=122) (by
   rintro pre x sb ⟨φ',ys,rfl,hf,rfl,hy⟩;obtain⟨d,φ2,e,d0,d1,hf2⟩:=aU (n:=26) hf (by decide) (by decide)
   obtain⟨c,hc,hm,_⟩:=kA (xs:=letS.cps.toList) d0 (by rw[jh,List.length_range'];exact d1)
   refine⟨[.v x,.io φ'],[.v x,.io φ'],.d (.str ⟨#[c]⟩),[.v x,.io φ2],.str ⟨#[c]⟩,[.v x,.io φ2],rfl,rfl,aw rfl (bc rfl rfl rfl rfl rfl rfl e) rfl rfl (ix_str (by decide +kernel) hc),rfl,φ2,ys++[⟨#[c]⟩],rfl,hf2,by rw[Yh];rfl,fun y hy2=>?_⟩
   rcases Qf.mp hy2 with z|z
   ·exact hy y z
   ·have:y=⟨#[c]⟩:=by simpa using z
    rw[jh,List.mem_range'_1]at hm
    exact⟨c,this,by lia⟩)
  (rng 0 k.toNat) [] [.e,.io φ] ⟨φ,[],rfl,hφ,rfl,fun y hy=>by cases hy⟩
 obtain⟨ds,sf,e1,e2,φ',ys,rfl,hf,e3,hy⟩:=cl;rw[List.nil_append]at e3;subst e3;rw[b5,Xb]at e2;have hy':∀y∈ys,∃c,y=(⟨#[c]⟩:Str):=fun y h=>by obtain⟨c,e,_⟩:=hy y h;exact⟨c,e⟩
 refine⟨Txt.join (Str.ofString "") ys,φ',?_,by rw[join_ones hy'];lia,rb hy,hf⟩
 have hj:qv (.str "") [.lst (ys.map D.str)]=some (.str (Txt.join (Str.ofString "") ys),false):=by
  show(eK (ys.map D.str)).bind (fun ys=>if (ys.map (·.length)).sum+ys.length*(Str.ofString "").length<=16777216 then some (D.str (Txt.join (Str.ofString "") ys),false) else none)=_;rw[gh];show(if _ then _ else _)=_;rw[if_pos (by rw[rc hy',hE];lia)]
 refine bG (o:=.rt (.d (.str (Txt.join (Str.ofString "") ys))) [.io φ',.v (.int k)]) rfl ?_ rfl
 exact aO (uD rfl rfl rfl (aB (dO (fG rfl rfl ⟨by lia,by lia⟩) (by
  show(true&&decide ((rng 0 k.toNat).length<=1000000))=true
  rw[b5,decide_eq_true (by lia)];rfl) e1) rfl) rfl rfl hj)
noncomputable abbrev w1:List Str:=["to","turn","turns","ring","rings","odd","ours","row","rows","cuts","knots","cover"]
noncomputable abbrev w2:List Str:=["change","joins","theirs","one","two","home","none","open","keep","tox","onex"]
noncomputable abbrev wordsS:List Str:=w1++w2
noncomputable def okN(x:Str):Bool:=decide (1<=x.length/\x.length<=6)&&x.cps.toList.all fun c=>decide (97<=c/\c<=122)
theorem wl{x:Str}(h:okN x=true):Nm x:=by
 unfold okN at h;rw[Vc,decide_eq_true_eq,Vi]at h;exact⟨h.1.1,h.1.2,fun c hc=>of_decide_eq_true (h.2 c hc)⟩
theorem rD:∀v∈wordsS,okN v=true:=Vi.mp (by decide +kernel)
theorem tL{φ:D}{st:Str}(hφ:bJ φ)(hst:st.length<=4)(lst:Lw st):∃x φ',gl φ [.str st]=some ((.str x,false),φ')/\Nm x/\bJ φ':=by
 by_cases c0:st=""
 ·subst c0;obtain⟨d,φ1,e1,d0,d1,f1⟩:=aU (n:=7) hφ (by decide) (by decide)
  by_cases c1:d=0
  ·subst c1;obtain⟨d2,φ2,e2,d20,d21,f2⟩:=aU (n:=23) f1 (by decide) (by decide)
   obtain⟨v,hv,hm,_⟩:=kA (xs:=wordsS.map D.str) d20 (by rw[Xb];exact d21)
   obtain⟨x,hx,rfl⟩:=Yi.mp hm;refine⟨x,φ2,?_,wl (rD x hx),f2⟩;refine bG (o:=.rt (.d (.str x)) [.io φ2,.v (.str ""),.o (.lst (wordsS.map D.str))]) rfl ?_ rfl;refine ap (s:=[.io φ,.v (.str ""),.e]) rfl ?_;refine dw ?_;refine d5 (s:=[.io φ1,.v (.str ""),.e]) (aQ (aw (bc rfl rfl rfl rfl rfl rfl e1) rfl rfl rfl rfl) rfl) ?_;refine ap (s:=[.io φ1,.v (.str ""),.o (.lst (w1.map D.str))]) rfl ?_;refine ap (s:=[.io φ1,.v (.str ""),.o (.lst (wordsS.map D.str))]) rfl ?_;exact aO (aw rfl (bc rfl rfl rfl rfl rfl rfl e2) rfl rfl (ib hv))
  ·obtain⟨d2,φ2,e2,d20,d21,f2⟩:=aU (n:=6) f1 (by decide) (by decide)
   obtain⟨x,φ3,e3,hx,lx,f3⟩:=gq (k:=1+d2) f2 (by lia) (by lia)
   refine⟨x,φ3,?_,⟨by lia,by lia,lx⟩,f3⟩
   refine bG (o:=.rt (.d (.str x)) [.io φ3,.v (.str ""),.e]) rfl ?_ rfl;refine ap (s:=[.io φ,.v (.str ""),.e]) rfl ?_;have t:decide (V.int d=V.int 0)=false:=decide_eq_false fun z=>c1 (V.int.inj z);refine ap (eQ (s:=[.io φ1,.v (.str ""),.e]) (dU (b:=decide (V.int d=V.int 0)) (aQ (aw (bc rfl rfl rfl rfl rfl rfl e1) rfl rfl rfl rfl) rfl) t) rfl) ?_;exact aO (bc rfl rfl (aB (aw rfl (bc rfl rfl rfl rfl rfl rfl e2) rfl rfl rfl) rfl) rfl rfl rfl e3)
 ·obtain⟨d,φ1,e1,d0,d1,f1⟩:=aU (n:=2) hφ (by decide) (by decide)
  obtain⟨x,φ2,e2,hx,lx,f2⟩:=gq (k:=1+d) f1 (by lia) (by lia)
  refine⟨st++x,φ2,?_,⟨by rw[Str.length_append];lia,by rw[Str.length_append];lia,lst.app lx⟩,f2⟩
  refine bG (o:=.rt (.d (.str (st++x))) [.io φ2,.v (.str st),.e]) rfl ?_ rfl;refine dw ?_;have t:(!decide (V.str st=V.str ""))=true:=by rw[decide_eq_false (fun z=>c0 (V.str.inj z))];rfl
  refine d5 (s:=[.io φ,.v (.str st),.e]) (dU (b:=!decide (V.str st=V.str "")) rfl t) ?_;exact aO (aw rfl (bc rfl rfl (aB (aw rfl (bc rfl rfl rfl rfl rfl rfl e1) rfl rfl rfl) rfl) rfl rfl rfl e2) rfl rfl (iR (by lia)))
end K47
namespace VF
open PySem L2
theorem gQ{i:Nat}{s t:Sl}{st s1:En}(h:st[i]?=some t)(n:t.isIo=false)(e:st.set i s=s1:=by rfl):i8 i s st=some s1:=by
 unfold i8;rw[h];show(if t.isIo=true then none else some (st.set i s))=_;rw[if_neg (by rw[n];decide),e]
theorem nj{xs:List D}{y:D}(h:xs.length<1000000):fE (.lst xs) [y]=some (.non,.lst (xs++[y])):=by
 show(if xs.length<1000000 then some (D.non,D.lst (xs++[y])) else none)=_;rw[if_pos h]
theorem rE{xs:List D}{i:Int}(h0:0<=i)(h1:i<xs.length)(h2:xs.length<=1000000)(hk:i.toNat<xs.length):kG (.lst xs) [.int i]=some (xs[i.toNat],.lst (xs.eraseIdx i.toNat)):=by
 show(if -(2 ^ 63)<=i/\i<2 ^ 63 then(seqIndex? i xs.length).bind fun k=>(xs[k]?).bind fun y=>some (y,D.lst (xs.eraseIdx k)) else none)=_;rw[if_pos ⟨by lia,by lia⟩,PySem.seqIndex_of h0 h1]
 show(xs[i.toNat]?).bind (fun y=>some (y,D.lst (xs.eraseIdx i.toNat)))=_;rw[Va hk];rfl
theorem lb{α:Type}{f:α->D}{g:D->α}(hg:∀a,g (f a)=a){ys:List D}{xs:List α}(p:ys.Perm (xs.map f)):∃zs:List α,ys=zs.map f/\zs.Perm xs:=by
 have h1:∀y∈ys,∃z,y=f z:=fun y hy=>by
  obtain⟨z,_,rfl⟩:=Yi.mp (p.mem_iff.mp hy);exact⟨z,rfl⟩
 refine⟨ys.map g,?_,?_⟩
 ·rw[Xj];refine(List.map_id' ys).symm.trans (Qi fun y hy=>?_);obtain⟨z,rfl⟩:=h1 y hy;show f z=f (g (f z));rw[hg]
 ·have:=p.map g;rw[Xj]at this;refine this.trans (List.Perm.of_eq ?_);exact(Qi fun z _=>hg z).trans (List.map_id' xs)
end VF
namespace K47
open PySem L2 VF VL
theorem rF{φ:D}{n:Int}(hφ:bJ φ)(h0:0<=n)(h1:n<=100):∃(xs:List Str)(φ':D),eZ φ [.int n]=some ((.lst (xs.map D.str),true),φ')/\(xs.length:Int)=n/\(∀x∈xs,Nm x)/\xs.Nodup/\bJ φ':=by
 obtain⟨d,φ1,e1,d0,d1,f1⟩:=aU (n:=3) hφ (by decide) (by decide)
 have sp:∃A B C R,eY=aJ A (aJ B (aJ C R)) /\
   (∃st φ2,A [.io φ,.v (.int n),.e,.e,.e,.e,.e]=some (.nx [.io φ,.v (.int n),.v (.str ""),.e,.e,.e,.e])/\B [.io φ,.v (.int n),.v (.str ""),.e,.e,.e,.e]=some (.nx [.io φ2,.v (.int n),.v (.str st),.e,.e,.e,.e]) /\
    C [.io φ2,.v (.int n),.v (.str st),.e,.e,.e,.e]=some (.nx [.io φ2,.v (.int n),.v (.str st),.o (.lst []),.e,.e,.e])/\bJ φ2/\st.length<=4/\Lw st) /\
   (∀st φ2,bJ φ2->st.length<=4->Lw st->∃(xs:List Str)(φ':D)(o4 o5 o6:Sl),R [.io φ2,.v (.int n),.v (.str st),.o (.lst []),.e,.e,.e]=some (.rt (.s 3) [.io φ',.v (.int n),.v (.str st),.o (.lst (xs.map D.str)),o4,o5,o6])/\(xs.length:Int)=n/\(∀x∈xs,Nm x)/\xs.Nodup/\bJ φ'):=by
  refine⟨_,_,_,_,rfl,?_,?_⟩
  ·by_cases c:d=0
   ·subst c;obtain⟨d2,φ2,e2,d20,d21,f2⟩:=aU (n:=4) f1 (by decide) (by decide)
    obtain⟨x,φ3,e3,hx,lx,f3⟩:=gq (k:=1+d2) f2 (by lia) (by lia)
    refine⟨x,φ3,rfl,?_,rfl,f3,by lia,lx⟩
    refine d5 (s:=[.io φ1,.v (.int n),.v (.str ""),.e,.e,.e,.e]) (aQ (aw (bc rfl rfl rfl rfl rfl rfl e1) rfl rfl rfl rfl) rfl) ?_;exact bY (bc rfl rfl (aB (aw rfl (bc rfl rfl rfl rfl rfl rfl e2) rfl rfl rfl) rfl) rfl rfl rfl e3) rfl
   ·refine⟨"",φ1,rfl,?_,rfl,f1,by decide +kernel,rd⟩
    have t:decide (V.int d=V.int 0)=false:=decide_eq_false fun z=>c (V.int.inj z);exact eQ (s:=[.io φ1,.v (.int n),.v (.str ""),.e,.e,.e,.e]) (dU (b:=decide (V.int d=V.int 0)) (aQ (aw (bc rfl rfl rfl rfl rfl rfl e1) rfl rfl rfl rfl) rfl) t) rfl
  ·intro st φ2 f2 hst lst
   have lp:∀(fg:FG)(B:FS),fg=gN 4->(∀(φ':D)(xs:List Str)(k:D)(o5 o6:Sl),bJ φ'->xs.length<=200->(∀x∈xs,Nm x)->xs.Nodup->xs.length<=110->o5.isIo=false->o6.isIo=false ->
     ∃φ2 x o6',B [.io φ',.v (.int n),.v (.str st),.o (.lst (xs.map D.str)),.v k,o5,o6]=some (.nx [.io φ2,.v (.int n),.v (.str st),.o (.lst ((xs++[x]).map D.str)),.v k,.v (.str x),.v o6'])/\bJ φ2/\Nm x/\x∉xs) ->
     ∃(xs:List Str)(φ':D)(o4 o5 o6:Sl),aJ (mF (jD (ad (ac 1) av)) fg B) (bx (ac 3)) [.io φ2,.v (.int n),.v (.str st),.o (.lst []),.e,.e,.e]=some (.rt (.s 3) [.io φ',.v (.int n),.v (.str st),.o (.lst (xs.map D.str)),o4,o5,o6])/\(xs.length:Int)=n/\(∀x∈xs,Nm x)/\xs.Nodup/\bJ φ':=by
    intro fg B hfg hB;subst hfg;obtain⟨sf,e,φ',xs,o4,o5,o6,rfl,hf,hl,hx,nd,_⟩:=je (fg:=gN 4) (B:=B) (rng 0 n.toNat) (fun gone s=>∃(φ':D)(xs:List Str)(o4 o5 o6:Sl),s=[.io φ',.v (.int n),.v (.str st),.o (.lst (xs.map D.str)),o4,o5,o6]/\bJ φ'/\xs.length=gone.length/\(∀x∈xs,Nm x)/\xs.Nodup/\o4.isIo=false/\o5.isIo=false/\o6.isIo=false)
     (fun gone x rest s ha zz8=>by
      obtain⟨φ',xs,o4,o5,o6,hs,hf,hl,hx,nd,q4,q5,q6⟩:=zz8;subst hs;have hg:=congrArg List.length ha;rw[b5,Wb,Wh]at hg;obtain⟨φ3,y,o6',eB,f3,ny,hy⟩:=hB φ' xs x o5 o6 hf (by lia) hx nd (by lia) q5 q6
      refine⟨_,_,gQ rfl q4,eB,φ3,xs++[y],.v x,.v (.str y),.v o6',rfl,f3,by simp[hl],fun z hz=>?_,?_,rfl,rfl,rfl⟩
      ·rcases Qf.mp hz with w|w
       ·exact hx z w
       ·have:z=y:=by simpa using w
        rw[this];exact ny
      ·rw[List.nodup_append]
       exact⟨nd,by simp,fun a ha b hb e=>by
        have:b=y:=by simpa using hb
        subst this;subst e;exact hy ha⟩) (rng 0 n.toNat) [] [.io φ2,.v (.int n),.v (.str st),.o (.lst []),.e,.e,.e] rfl ⟨φ2,[],.e,.e,.e,rfl,f2,rfl,fun x hx=>(by cases hx),List.nodup_nil,rfl,rfl,rfl⟩
    rw[b5]at hl;exact⟨xs,φ',o4,o5,o6,ap (mT (fG rfl rfl ⟨by lia,by lia⟩) e) rfl,by lia,hx,nd,hf⟩
   refine lp _ _ rfl ?_;intro φ' xs k o5 o6 hf _ hx nd hl q5 q6;obtain⟨x,φ3,e3,nx,f3⟩:=tL hf hst lst;obtain⟨sf,ew,s',y,rfl,ny,hy⟩:=mU (f:=aX (fOp bIn (ac 5) (ac 3))) (B:=aJ (bF (fOp d4 (fOp bIx (fC (.str "abcdefghijklmnopqrstuvwxyz")) (fOp jb (ac 6) (fC (.int 26)))) (fOp bC (fC (.int 1)) (fOp mJ (ac 6) (fC (.int 26))))) 5) (bF (fOp bC (ac 6) (fC (.int 1))) 6))
    (fun m s=>∃(j:Nat)(x:Str),s=[.io φ3,.v (.int n),.v (.str st),.o (.lst (xs.map D.str)),.v k,.v (.str x),.v (.int j)]/\Nm x/\m+j=xs.length+2/\j<=xs.length+1/\(∀i,i+1<j->word i∈xs)/\(j=0∨x=word (j-1)))
    (fun s=>∃(j:Nat)(x:Str),s=[.io φ3,.v (.int n),.v (.str st),.o (.lst (xs.map D.str)),.v k,.v (.str x),.v (.int j)]/\Nm x/\x∉xs)
    (by
     rintro m s ⟨j,x,rfl,nx,hm,hj,hw,hxj⟩;by_cases c:x∈xs
     ·right;have hall:∀i,i<j->word i∈xs:=fun i hi=>by
       rcases hxj with z|z
       ·lia
       ·by_cases e:i+1<j
        ·exact hw i e
        ·have:i=j-1:=by lia
         rw[this,← z];exact c
      have hle:=pi hall;obtain⟨m',rfl⟩:∃m',m=m'+1:=⟨m-1,by lia⟩
      have d0:(0:Int)<=1+(j:Int) / 26:=Int.add_nonneg (by decide) (Int.ediv_nonneg (Yj j) (by decide))
      have d1:1+(j:Int) / 26<=1000:=Int.le_trans (Int.add_le_add_left (Int.ediv_le_self 26 (Yj j)) 1) (by lia)
      refine⟨_,[.io φ3,.v (.int n),.v (.str st),.o (.lst (xs.map D.str)),.v k,.v (.str (word j)),.v (.int ((j+1:Nat):Int))],m',dU (aQ (aw rfl rfl rfl rfl uC) rfl) (decide_eq_true c),?_,Nat.lt_succ_self _,j+1,word j,rfl,tG (by lia),by lia,Nat.succ_le_succ hle,fun i hi=>hall i (by lia),.inr rfl⟩
      refine ap (s:=[.io φ3,.v (.int n),.v (.str st),.o (.lst (xs.map D.str)),.v k,.v (.str (word j)),.v (.int j)]) (bY (aw (aw rfl rfl rfl rfl (ix_str (by decide +kernel) (we j))) (aw rfl rfl rfl rfl rfl) rfl rfl (oe ⟨d0,d1,(by show 1<=1000;decide)⟩)) rfl) ?_
      rfl
     ·left
      exact⟨_,dU (aQ (aw rfl rfl rfl rfl uC) rfl) (decide_eq_false c),j,x,rfl,nx,c⟩)
    200 (xs.length+2) [.io φ3,.v (.int n),.v (.str st),.o (.lst (xs.map D.str)),.v k,.v (.str x),.v (.int 0)] (by lia) ⟨0,x,rfl,nx,rfl,Vj _,fun i hi=>absurd hi (by lia),.inl rfl⟩
   refine⟨φ3,y,.int s',?_,f3,ny,hy⟩;refine ap (bY (bc rfl rfl rfl rfl rfl rfl e3) (gQ rfl q5)) ?_;refine ap (bY (x:=.int 0) rfl (gQ rfl q6)) ?_;refine ap ew ?_;refine iQ (qH rfl rfl rfl rfl rfl rfl rfl (nj (by rw[Xb];lia)) ?_)
   rw[Yh];rfl
 obtain⟨A,B,C,R,eF,⟨st,φ2,eA,eB,eC,f2,hst,lst⟩,hR⟩:=sp;obtain⟨xs,φ',o4,o5,o6,eR,hl,hx,nd,hf⟩:=hR st φ2 f2 hst lst;refine⟨xs,φ',?_,hl,hx,nd,hf⟩;refine bG (o:=.rt (.s 3) [.io φ',.v (.int n),.v (.str st),.o (.lst (xs.map D.str)),o4,o5,o6]) rfl ?_ rfl;rw[eF];exact ap eA (ap eB (ap eC eR))
theorem tM{φ:D}{xs:List D}(hφ:bJ φ)(hx:xs.length<=200):∃(ys:List D)(φ':D),cT φ [.lst xs]=some ((.lst ys,true),φ')/\ys.Perm xs/\bJ φ':=by
 obtain⟨sf,ew,ts,φ',rfl,pm,hf⟩:=mU (f:=aX (fOp bNe (ac 2) (fO av))) (B:=gF (fM isL fE 3 (ad (fM isL kG 2 (ad (fIO au 0 (ad (fCB gI (ad (ac 2) av)) av)) av)) av)))
  (fun m s=>∃(ls ts:List D)(φ':D),s=[.io φ',.v (.lst xs),.o (.lst ls),.o (.lst ts)]/\bJ φ'/\(ts++ls).Perm xs/\m=ls.length)
  (fun s=>∃(ts:List D)(φ':D),s=[.io φ',.v (.lst xs),.o (.lst []),.o (.lst ts)]/\ts.Perm xs/\bJ φ')
  (by
   rintro m s ⟨ls,ts,φ',rfl,hf,pm,rfl⟩;have hlen:ts.length+ls.length=xs.length:=by have:=pm.length_eq;rw[Wb]at this;exact this
   cases ls with
   | nil =>
    rw[Xe]at pm;exact .inl ⟨_,rfl,ts,φ',rfl,pm,hf⟩
   | cons y lr =>
    right;have hl0:(y::lr).length=lr.length+1:=rfl;obtain⟨d,φ2,e,d0,d1,f2⟩:=aU (n:=((y::lr).length:Int)) hf (by lia) (by lia)
    have hk:d.toNat<(y::lr).length:=by lia
    refine⟨_,[.io φ2,.v (.lst xs),.o (.lst ((y::lr).eraseIdx d.toNat)),.o (.lst (ts++[(y::lr)[d.toNat]]))],((y::lr).eraseIdx d.toNat).length,rfl,?_,?_,_,_,φ2,rfl,f2,?_,rfl⟩
    ·exact iQ (qH rfl rfl rfl (aB (qH rfl rfl rfl (aB (bc rfl rfl rfl rfl rfl rfl e) rfl) rfl rfl rfl (rE d0 d1 (by lia) hk)) rfl) rfl rfl rfl (nj (by lia)))
    ·rw[List.length_eraseIdx_of_lt hk];lia
    ·refine List.Perm.trans ?_ pm;rw[Xg]
     exact List.Perm.append_left ts (ji hk))
  300 xs.length [.io φ,.v (.lst xs),.o (.lst xs),.o (.lst [])] (by lia) ⟨xs,[],φ,rfl,hφ,List.Perm.refl _,rfl⟩
 refine⟨ts,φ',?_,pm,hf⟩;refine bG (o:=.rt (.s 3) [.io φ',.v (.lst xs),.o (.lst []),.o (.lst ts)]) rfl ?_ rfl;refine ap (s:=[.io φ,.v (.lst xs),.o (.lst xs),.e]) rfl ?_;refine ap (s:=[.io φ,.v (.lst xs),.o (.lst xs),.o (.lst [])]) rfl ?_;exact ap ew rfl
noncomputable abbrev bdD(p:Bool×Str):D:=.str (bd p)
theorem gR{p:Bool×Str}(h:Nm p.2):(bd p).length<=1000000:=by have:=(jj h).2;lia
theorem tN{φ:D}{xs:List Str}(hφ:bJ φ)(hx:xs.length<=200)(nm:∀x∈xs,Nm x):∃(ps:List (Bool×Str))(φ':D),gk φ [.lst (xs.map D.str)]=some ((.tup (ps.map bdD),false),φ')/\(ps.map (·.2)).Perm xs/\bJ φ':=by
 obtain⟨ys,φ1,e1,pm,f1⟩:=tM (xs:=xs.map D.str) hφ (by rw[Xb];exact hx)
 obtain⟨zs,rfl,pz⟩:=lb (g:=fun d=>match d with|.str z=>z|_=>Str.empty) (fun _=>rfl) pm
 have hzl:=pz.length_eq;have nz:∀z∈zs,Nm z:=fun z hz=>nm z (pz.mem_iff.mp hz);obtain⟨ds,sf,ec,φ2,ps,rfl,f2,e3,e4⟩:=j6 (fg:=gN 0) (fc:=fN) (k:=1) (fe:=fOp bC (fOp d4 (fC (.str "-")) (fIO au 1 (ad (fC (.int 2)) av))) (ac 0)) (zs.map D.str)
  (fun gone pre sb=>∃(φ':D)(ps:List (Bool×Str)),sb=[.e,.io φ']/\bJ φ'/\pre=ps.map bdD/\gone=(ps.map (·.2)).map D.str)
  (by
   rintro gone x rest pre sb ha ⟨φ',ps,rfl,hf,rfl,rfl⟩;obtain⟨d,φ2,e,d0,d1,f2⟩:=aU (n:=2) hf (by decide) (by decide)
   have hxm:x∈zs.map D.str:=by rw[ha];simp
   obtain⟨z,hz,rfl⟩:=Yi.mp hxm;have hm:=pj (d:=d) (n:=z) d0 d1;refine⟨[.v (.str z),.io φ'],[.v (.str z),.io φ'],.d (bdD (decide (d=1),z)),[.v (.str z),.io φ2],bdD (decide (d=1),z),[.v (.str z),.io φ2],rfl,rfl,?_,rfl,φ2,ps++[(decide (d=1),z)],rfl,f2,by rw[Yh];rfl,by rw[Yh,Yh];rfl⟩
   refine aw (aw rfl (bc rfl rfl rfl rfl rfl rfl e) rfl rfl (oe ⟨d0,by lia,by decide +kernel⟩)) rfl rfl rfl (iR ?_) ?_
   ·have:=(jj (p:=(decide (d=1),z)) (nz z hz)).2;rw[← hm,Str.length_append]at this;show(Txt.mul minus d).length+z.length<=_;lia
   ·show Rs.d (D.str (Txt.mul minus d++z))=_
    rw[hm])
  (zs.map D.str) [] [] [.e,.io φ1] rfl ⟨φ1,[],rfl,f1,rfl,rfl⟩
 rw[List.nil_append]at e3;subst e3;have e5:zs=ps.map (·.2):=by
  have:=congrArg (List.map (fun d:D=>match d with|.str z=>z|_=>Str.empty)) e4
  rw[Xj,Xj]at this;exact((List.map_id' zs).symm.trans this).trans (List.map_id' _)
 refine⟨ps,φ2,?_,by rw[← e5];exact pz,f2⟩
 refine bG (o:=.rt (.d (.tup (ps.map bdD))) [.io φ2,.v (.lst (xs.map D.str))]) rfl ?_ rfl;refine aO (df (aB (dO (uG (bc rfl rfl rfl rfl rfl rfl e1) rfl) ?_ ec) rfl) rfl rfl);show(true&&decide ((zs.map D.str).length<=1000000))=true;rw[Xb,decide_eq_true (by lia)];rfl
end K47
namespace VF
open PySem L2
theorem tO{n:Nat}{x:D}(h:x∈rng 0 n):∃i:Nat,i<n/\x=.int i:=by
 obtain⟨i,hi⟩:=Yg h;obtain⟨h1,h2⟩:=qb hi;exact⟨i,h1,by rw[h2,Int.zero_add]⟩
theorem tP{α:Type}(xs:List α)(d:D):xs.map (fun _=>d)=List.replicate xs.length d:=by
 induction xs with
 | nil=>rfl
 | cons x r ih=>rw[List.map_cons,ih];rfl
end VF
namespace K47
open PySem L2 VF VL
theorem pw{n:Nat}{u:D}(h:Dp (n+1) u):bu (iu (cA n)) 2 2 [u,u]=some (.bl true,false):=by
 have seqs:∀(ds:List D),ds.length<=1000000->(∀d∈ds,Dp n d)->∀(u:D),(∀i d,atI ds i=some d->bIx u (.int i)=some (d,false)) ->
   cY (gN 0) fN (cg (cA n) (ad (fOp bIx (ac 1) (ac 0)) (ad (fOp bIx (ac 2) (ac 0)) av))) 1 (rng 0 ((ds.length:Int)).toNat) [.e,.v u,.v u]=some (List.replicate ds.length (D.bl true),[.e,.v u,.v u]):=fun ds hl hd u hu=>by
  have e:=hU (fg:=gN 0) (fc:=fN) (k:=1) (fe:=cg (cA n) (ad (fOp bIx (ac 1) (ac 0)) (ad (fOp bIx (ac 2) (ac 0)) av))) (fun _=>D.bl true) (rng 0 ((ds.length:Int)).toNat) [.e,.v u,.v u] (fun x hx=>by
   obtain⟨i,hi,rfl⟩:=tO hx;have hi':i<ds.length:=by lia
   have ha:atI ds (i:Int)=some ds[i]:=gx (Va hi');refine⟨[.v (.int i),.v u,.v u],[.v (.int i),.v u,.v u],.d (.bl true),[.v (.int i),.v u,.v u],[.v (.int i),.v u,.v u],rfl,rfl,?_,rfl,rfl⟩
   exact bZ (aB (aw rfl rfl rfl rfl (hu _ _ ha)) (aB (aw rfl rfl rfl rfl (hu _ _ ha)) rfl)) rfl (jd (hd _ (List.getElem_mem hi'))) rfl)
  rw[e,tP,b5];have:((ds.length:Int)).toNat=ds.length:=by lia
  rw[this]
 cases h with
 | bl _ b=>cases b<;>rfl
 | int _ i =>
  refine bh (o:=.rt (.d (.bl true)) [.v (.int i),.v (.int i)]) rfl ?_ rfl;refine ap (s:=[.v (.int i),.v (.int i)]) rfl (ap (s:=[.v (.int i),.v (.int i)]) rfl (dw (d5 (s:=[.v (.int i),.v (.int i)]) rfl ?_)));refine aO (kL (s:=[.v (.int i),.v (.int i)]) rfl rfl (aw rfl rfl rfl rfl (z:=(.bl (decide (V.int i=V.int i)),false)) rfl ?_));rw[decide_eq_true rfl];rfl
 | non _=>rfl
 | str _ x =>
  refine bh (o:=.rt (.d (.bl true)) [.v (.str x),.v (.str x)]) rfl ?_ rfl;refine ap (s:=[.v (.str x),.v (.str x)]) rfl (ap (s:=[.v (.str x),.v (.str x)]) rfl (ap (s:=[.v (.str x),.v (.str x)]) rfl (dw (d5 (s:=[.v (.str x),.v (.str x)]) rfl ?_))));refine aO (kL (s:=[.v (.str x),.v (.str x)]) rfl rfl (aw rfl rfl rfl rfl (z:=(.bl (decide (V.str x=V.str x)),false)) rfl ?_));rw[decide_eq_true rfl];rfl
 | @tup _ ds hl hd =>
  refine bh (o:=.rt (.d (.bl true)) [.v (.tup ds),.v (.tup ds)]) rfl ?_ rfl;refine ap (s:=[.v (.tup ds),.v (.tup ds)]) rfl (ap (s:=[.v (.tup ds),.v (.tup ds)]) rfl (ap (s:=[.v (.tup ds),.v (.tup ds)]) rfl (ap (s:=[.v (.tup ds),.v (.tup ds)]) rfl (ap (s:=[.v (.tup ds),.v (.tup ds)]) rfl ?_))));refine aO (kL (s:=[.v (.tup ds),.v (.tup ds)]) (r:=.d (.bl (decide (V.int ds.length=V.int ds.length)))) rfl (by rw[decide_eq_true rfl];rfl) ?_)
  refine df (aB (dO (fG (j:=(ds.length:Int)) rfl rfl ⟨by lia,by lia⟩) (by
   show(true&&decide ((rng 0 ((ds.length:Int)).toNat).length<=1000000))=true
   rw[b5,decide_eq_true (by lia)];rfl) (seqs ds hl hd (.tup ds) fun i d h=>VF.ix_tup h)) rfl) rfl (lQ _)
 | @lst _ ds hl hd =>
  refine bh (o:=.rt (.d (.bl true)) [.v (.lst ds),.v (.lst ds)]) rfl ?_ rfl;refine ap (s:=[.v (.lst ds),.v (.lst ds)]) rfl (ap (s:=[.v (.lst ds),.v (.lst ds)]) rfl (ap (s:=[.v (.lst ds),.v (.lst ds)]) rfl (ap (s:=[.v (.lst ds),.v (.lst ds)]) rfl (ap (s:=[.v (.lst ds),.v (.lst ds)]) rfl ?_))));refine aO (kL (s:=[.v (.lst ds),.v (.lst ds)]) (r:=.d (.bl (decide (V.int ds.length=V.int ds.length)))) rfl (by rw[decide_eq_true rfl];rfl) ?_)
  refine df (aB (dO (fG (j:=(ds.length:Int)) rfl rfl ⟨by lia,by lia⟩) (by
   show(true&&decide ((rng 0 ((ds.length:Int)).toNat).length<=1000000))=true
   rw[b5,decide_eq_true (by lia)];rfl) (seqs ds hl hd (.lst ds) fun i d h=>ib h)) rfl) rfl (lQ _)
end K47
namespace VF
open PySem L2
section
variable {st s s1 s2:En}{r ry:Rs}{d1 d2:D}{fe fa:FE}{rest:FCh}{a:Option (Rs×En)}{b:D->D->Option Rz}
theorem ie(h:fa st=some (r,s))(h2:rest r s=a):kM fa rest st=a:=by simp only[kM,h,Za];exact h2
theorem ke(h:fe st=some (r,s))(h1:cont s ry=some d1)(h2:cont s r=some d2)(h3:b d1 d2=some (.bl true,false))(h4:rest r s=a):bi b fe rest ry st=a:=by
 simp only[bi,h,h1,h2,h3,Za];exact h4
theorem cM{z:Rz}{r':Rs}(h:fe st=some (r,s))(h1:cont s ry=some d1)(h2:cont s r=some d2)(h3:b d1 d2=some z)(hz:mk z=r':=by rfl):cJ b fe ry st=some (r',s):=by
 simp only[cJ,h,h1,h2,h3,Za,hz]
theorem rG{i j:Int}(h:i<=j):bLe (.int i) (.int j)=some (.bl true,false):=by
 show some (D.bl (decide (i<=j)),false)=_;rw[decide_eq_true h]
theorem wm{i j:Int}(h:i<j):bLt (.int i) (.int j)=some (.bl true,false):=by
 show some (D.bl (decide (i<j)),false)=_;rw[decide_eq_true h]
end
theorem xG{l:List D}{n:Nat}(hl:l.length<=n){b:Bool}(hb:b=true)(hn:n<=1000000:=by decide):(b&&decide (l.length<=1000000))=true:=by rw[hb,decide_eq_true (by lia)];rfl
end VF
namespace K47
open PySem L2 VF VL
theorem fK{t:Bool}{n:Str}(h:Nm n):cy [bdD (t,n)]=some (.bl t,false):=by
 have e:cy [bdD (t,n)]=some (.bl (Txt.startswith (bd (t,n)) minus),false):=rfl;rw[e,pk h]
theorem px{t:Bool}{n:Str}(h:Nm n):hW [bdD (t,n)]=some (.str n,false):=by
 refine bh (o:=.rt (.d (.str n)) [.v (bdD (t,n))]) rfl ?_ rfl;cases t with
 | true =>
  refine aO (uE (s:=[.v (bdD (true,n))]) (aQ (bZ rfl rfl (fK h) rfl) rfl) (ci rfl rfl rfl rfl (qI (gR h)) ?_));show Rs.d (D.str (Txt.slice (minus++n) (some 1) none))=_;rw[rg]
 | false=>exact aO (uF (s:=[.v (bdD (false,n))]) (aQ (bZ rfl rfl (fK h) rfl) rfl) rfl)
theorem rH{t:Bool}{n:Str}(h:Nm n):dQ [bdD (t,n)]=some (bdD (!t,n),false):=by
 have e1:minus.length=1:=by decide +kernel
 refine bh (o:=.rt (.d (bdD (!t,n))) [.v (bdD (t,n))]) rfl ?_ rfl;cases t with
 | true=>exact aO (uE (s:=[.v (bdD (true,n))]) (aQ (bZ rfl rfl (fK h) rfl) rfl) (bZ rfl rfl (px h) rfl))
 | false=>exact aO (uF (s:=[.v (bdD (false,n))]) (aQ (bZ rfl rfl (fK h) rfl) rfl) (aw rfl rfl rfl rfl (iR (by
   have:=(jj (p:=(false,n)) h).2;show minus.length+(bd (false,n)).length<=_
   lia))))
theorem tQ{t:Bool}{n:Str}(h:Nm n):cR [bdD (t,n)]=some (bdD (!t,n),false):=by
 have e1:minus.length=1:=by decide +kernel
 obtain⟨c,hc,hcm⟩:=rh (p:=(t,n)) h;refine bh (o:=.rt (.d (bdD (!t,n))) [.v (bdD (t,n))]) rfl ?_ rfl;cases t with
 | true =>
  refine dw (d5 (s:=[.v (bdD (true,n))]) (dU (aQ (aw (aw rfl rfl rfl rfl (ix_str (gR h) hc)) rfl rfl rfl rfl) rfl) (decide_eq_true (hcm.mpr rfl))) (aO (ci rfl rfl rfl rfl (qI (gR h)) ?_)));show Rs.d (D.str (Txt.slice (minus++n) (some 1) none))=_;rw[rg];rfl
 | false =>
  refine ap (eQ (s:=[.v (bdD (false,n))]) (dU (aQ (aw (aw rfl rfl rfl rfl (ix_str (gR h) hc)) rfl rfl rfl rfl) rfl) (decide_eq_false fun z=>by cases (hcm.mp z))) rfl) ?_
  exact aO (aw rfl rfl rfl rfl (iR (by
   have:=(jj (p:=(false,n)) h).2;show minus.length+(bd (false,n)).length<=_
   lia)))
noncomputable def flip(ps:List (Bool×Str)):List (Bool×Str):=ps.reverse.map fun p=>(!p.1,p.2)
theorem fj(ps:List (Bool×Str)):(flip ps).length=ps.length:=by simp[flip]
noncomputable def tS(d:D):D:=match dQ [d] with
 | some (y,_)=>y
 | none=>.non
theorem oz{t:Bool}{n:Str}(h:Nm n):tS (bdD (t,n))=bdD (!t,n):=by unfold tS;rw[rH h]
theorem wn{ps:List (Bool×Str)}(hn:∀p∈ps,Nm p.2):((ps.map bdD).reverse).map tS=(flip ps).map bdD:=by
 unfold flip;rw[← List.map_reverse,Xj,Xj];refine Qi fun p hp=>?_;obtain⟨t,n⟩:=p;exact oz (hn _ (List.mem_reverse.mp hp))
theorem kf{G:List D->Option Rz}(hG:∀(t:Bool)(n:Str),Nm n->G [bdD (t,n)]=some (bdD (!t,n),false)){ps:List (Bool×Str)}(hn:∀p∈ps,Nm p.2):cY (gN 0) fN (cg G (ad (ac 0) av)) 1 ((ps.map bdD).reverse) [.e]=some ((flip ps).map bdD,[.e]):=by
 rw[← wn hn];refine hU (fg:=gN 0) (fc:=fN) (k:=1) tS ((ps.map bdD).reverse) [.e] fun x hx=>?_;obtain⟨⟨t,n⟩,hp,rfl⟩:=Yi.mp (List.mem_reverse.mp hx);have h:=hn _ hp;rw[oz h];exact⟨[.v (bdD (t,n))],[.v (bdD (t,n))],.d (bdD (!t,n)),[.v (bdD (t,n))],[.v (bdD (t,n))],rfl,rfl,bZ rfl rfl (hG t n h) rfl,rfl,rfl⟩
theorem xH{ps:List (Bool×Str)}(hn:∀p∈ps,Nm p.2)(hl:ps.length<=300):cj [.tup (ps.map bdD)]=some (.tup ((flip ps).map bdD),false):=by
 refine bh (o:=.rt (.d (.tup ((flip ps).map bdD))) [.v (.tup (ps.map bdD))]) rfl ?_ rfl;refine aO (df (aB (dO (sU rfl rfl) ?_ (kf (fun t n h=>rH h) hn)) rfl) rfl rfl);show(true&&decide ((ps.map bdD).reverse.length<=1000000))=true;rw[Ve,Xb,decide_eq_true (by lia)];rfl
noncomputable abbrev LD(ps:List (Bool×Str)):D:=.tup (ps.map bdD)
noncomputable abbrev Bs:=List (Bool×Str)
noncomputable def iy(ps:Bs)(i j:Nat):Bs:=ps.take i++flip ((ps.drop i).take (j-i))++ps.drop j
noncomputable def dh(ps:Bs)(i j k l:Nat):Bs:=ps.take i++(ps.drop k).take (l-k)++(ps.drop j).take (k-j)++(ps.drop i).take (j-i)++ps.drop l
theorem oA{ps:Bs}{i:Nat}(h:i<=ps.length):bW (LD ps) none (some (i:Int))=some (LD (ps.take i),false):=by
 rw[mX,v0 (by rw[Xb];exact h),← List.map_take]
theorem iT{ps:Bs}{i:Nat}(h:i<=ps.length):bW (LD ps) (some (i:Int)) none=some (LD (ps.drop i),false):=by
 rw[mX,qO (by rw[Xb];exact h),← List.map_drop]
theorem fk{ps:Bs}{i j:Nat}(h:i<=ps.length)(h':j<=ps.length):bW (LD ps) (some (i:Int)) (some (j:Int))=some (LD ((ps.drop i).take (j-i)),false):=by
 rw[mX,tf (by rw[Xb];exact h) (by rw[Xb];exact h'),← List.map_drop,← List.map_take]
theorem cD{ps qs:Bs}(h:ps.length+qs.length<=100000):bH (LD ps) (LD qs)=some (LD (ps++qs),false):=by
 rw[s9 (by rw[Xb,Xb];exact h),← Yh]
theorem oB{ps:Bs}(h:∀p∈ps,Nm p.2)(n:Nat):∀p∈ps.take n,Nm p.2:=fun p hp=>h p (List.mem_of_mem_take hp)
theorem oC{ps:Bs}(h:∀p∈ps,Nm p.2)(n:Nat):∀p∈ps.drop n,Nm p.2:=fun p hp=>h p (List.mem_of_mem_drop hp)
theorem ig(ps:Bs):gI [LD ps]=some (.int ps.length,false):=by
 show some (D.int ((ps.map bdD).length:Nat),false)=_;rw[Xb]
theorem tT{ps:Bs}{i j:Nat}(hn:∀p∈ps,Nm p.2)(hl:ps.length<=300)(h1:i<j)(h2:j<=ps.length):kP [LD ps,.int i,.int j]=some (LD (iy ps i j),false):=by
 have g0:(0:Int)<=(i:Int):=by lia
 have g1:(i:Int)<(j:Int):=by lia
 have g2:(j:Int)<=(ps.length:Int):=by lia
 have hi:i<=ps.length:=by lia
 refine bh (o:=.rt (.d (LD (iy ps i j))) [.v (LD ps),.v (.int i),.v (.int j)]) rfl ?_ rfl;refine ap (s:=[.v (LD ps),.v (.int i),.v (.int j)]) (eQ (gf (aQ (ie rfl (ke rfl rfl rfl (rG g0) (ke rfl rfl rfl (wm g1) (cM (df rfl rfl (ig ps)) rfl rfl (rG g2))))) rfl)) rfl) ?_;have hm:((ps.drop i).take (j-i)).length<=300:=by rw[Zc,Wc];lia
 refine aO (aw (aw (ci rfl rfl rfl rfl (oA hi)) (cH (aB (ci rfl rfl rfl rfl (fk hi h2)) rfl) rfl (xH (oB (oC hn i) _) hm)) rfl rfl (cD ?_)) (ci rfl rfl rfl rfl (iT h2)) rfl rfl (cD ?_))
 ·rw[fj,Zc];lia
 ·rw[Wb,fj,Zc,Wc];lia
theorem pA{ps:Bs}{i j k l:Nat}(hl:ps.length<=300)(h1:i<j)(h2:j<=k)(h3:k<l)(h4:l<=ps.length):gM [LD ps,.int i,.int j,.int k,.int l]=some (LD (dh ps i j k l),false):=by
 have g0:(0:Int)<=(i:Int):=by lia
 have g1:(i:Int)<(j:Int):=by lia
 have g3:(j:Int)<=(k:Int):=by lia
 have g4:(k:Int)<(l:Int):=by lia
 have g5:(l:Int)<=(ps.length:Int):=by lia
 have hi:i<=ps.length:=by lia
 have hj:j<=ps.length:=by lia
 have hk:k<=ps.length:=by lia
 refine bh (o:=.rt (.d (LD (dh ps i j k l))) [.v (LD ps),.v (.int i),.v (.int j),.v (.int k),.v (.int l)]) rfl ?_ rfl;refine ap (s:=[.v (LD ps),.v (.int i),.v (.int j),.v (.int k),.v (.int l)]) (eQ (gf (aQ (ie rfl (ke rfl rfl rfl (rG g0) (ke rfl rfl rfl (wm g1) (ke rfl rfl rfl (rG g3) (ke rfl rfl rfl (wm g4) (cM (df rfl rfl (ig ps)) rfl rfl (rG g5))))))) rfl)) rfl) ?_;refine aO (aw (aw (aw (aw (ci rfl rfl rfl rfl (oA hi)) (ci rfl rfl rfl rfl (fk hk h4)) rfl rfl (cD ?_)) (ci rfl rfl rfl rfl (fk hj hk)) rfl rfl (cD ?_)) (ci rfl rfl rfl rfl (fk hi hj)) rfl rfl (cD ?_)) (ci rfl rfl rfl rfl (iT h4)) rfl rfl (cD ?_))
 all_goals simp only[Wb,Zc,Wc];lia
theorem nk{ps:Bs}{i j:Nat}(hn:∀p∈ps,Nm p.2)(hl:ps.length<=300)(h1:i<j)(h2:j<=ps.length):dR [LD ps,.int i,.int j]=some (LD (iy ps i j),false):=by
 have g0:(0:Int)<=(i:Int):=by lia
 have g1:(i:Int)<(j:Int):=by lia
 have g2:(j:Int)<=(ps.length:Int):=by lia
 have hi:i<=ps.length:=by lia
 refine bh (o:=.rt (.d (LD (iy ps i j))) [.v (LD ps),.v (.int i),.v (.int j)]) rfl ?_ rfl;have hm:((ps.drop i).take (j-i)).length<=300:=by rw[Zc,Wc];lia
 have hn':=oB (oC hn i) (j-i);refine aO (aw (aw (ci rfl rfl rfl rfl (oA hi)) (df (aB (dO (xj (vX (ci rfl rfl rfl rfl (fk hi h2)) rfl rfl) rfl) (xG (n:=300) (by rw[Ve,Xb];exact hm) rfl) (kf (fun t n h=>tQ h) hn')) rfl) rfl rfl) rfl rfl (cD ?_)) (ci rfl rfl rfl rfl (iT h2)) rfl rfl (cD ?_))
 ·rw[fj,Zc];lia
 ·rw[Wb,fj,Zc,Wc];lia
theorem lV{ps:Bs}{i j k l:Nat}(hl:ps.length<=300)(h1:i<j)(h2:j<=k)(h3:k<l)(h4:l<=ps.length):dA [LD ps,.int i,.int j,.int k,.int l]=some (LD (dh ps i j k l),false):=by
 have g0:(0:Int)<=(i:Int):=by lia
 have g1:(i:Int)<(j:Int):=by lia
 have g3:(j:Int)<=(k:Int):=by lia
 have g4:(k:Int)<(l:Int):=by lia
 have g5:(l:Int)<=(ps.length:Int):=by lia
 have hi:i<=ps.length:=by lia
 have hj:j<=ps.length:=by lia
 have hk:k<=ps.length:=by lia
 refine bh (o:=.rt (.d (LD (dh ps i j k l))) [.v (LD ps),.v (.int i),.v (.int j),.v (.int k),.v (.int l),.v (LD (ps.take i++(ps.drop k).take (l-k)))]) rfl ?_ rfl;refine ap (s:=[.v (LD ps),.v (.int i),.v (.int j),.v (.int k),.v (.int l),.v (LD (ps.take i++(ps.drop k).take (l-k)))]) (bY (aw (ci rfl rfl rfl rfl (oA hi)) (ci rfl rfl rfl rfl (fk hk h4)) rfl rfl (cD ?_)) rfl) ?_
 ·simp only[Zc,Wc];lia
 refine aO (aw (aw (aw rfl (ci rfl rfl rfl rfl (fk hj hk)) rfl rfl (cD ?_)) (ci rfl rfl rfl rfl (fk hi hj)) rfl rfl (cD ?_)) (ci rfl rfl rfl rfl (iT h4)) rfl rfl (cD ?_))
 all_goals simp only[Wb,Zc,Wc];lia
end K47
namespace VX
open PySem L2 VF
section
variable {st s s1 s2:En}{r ry:Rs}{rs:List Rs}{ds:List D}{d1 d2:D}{fe:FE}{fa:FA}{rest:FCh}{b:D->D->Option Rz}{F G:FX}{f:FT}{i j:Nat}{R:List D->Option Bool}{g:List D->Option Rz}{a:Option Ox}
theorem dY{c c':Bool}(h:fe st=some (r,st))(h1:cont st ry=some d1)(h2:cont st r=some d2)(h3:b d1 d2=some (.bl c,false))(h4:rest r st=some (.d (.bl c'),st)):bi b fe rest ry st=some (.d (.bl (c&&c')),st):=by
 simp only[bi,h,h1,h2,h3,Za];cases c
 ·rfl
 ·exact h4
theorem uN(h:F st=some (.o (.nx s))):ph F i j st=some (.nx s):=by simp only[ph,h,Za]
theorem uO(h:F st=some (.x s))(h1:s[i]?=some .e)(h2:i≠j)(h3:i8 j (.v (.bl true)) s=some s1):ph F i j st=some (.nx s1):=by
 simp only[ph,h,Za,h1,if_neg h2,h3]
theorem oD(h:fa st=some (rs,s))(h1:b6 rs s=some (ds,s1))(h2:R ds=some true):jg R g fa i st=some (.x s1):=by
 simp only[jg,h,h1,Za,if_pos h2]
theorem oE(h:fa st=some (rs,s))(h1:b6 rs s=some (ds,s1))(h2:R ds=some false)(h3:bF (cX g fa) i st=some (.nx s2)):jg R g fa i st=some (.o (.nx s2)):=by
 have n:¬ R ds=some true:=by rw[h2];nofun
 simp only[jg,h,h1,Za,if_neg n,h3]
theorem uP(h:f st=some (true,s))(h2:F s=a):xIf f F G st=a:=by simp only[xIf,h,Za,if_true];exact h2
theorem uQ(h:f st=some (false,s))(h2:G s=a):xIf f F G st=a:=by simp only[xIf,h,Za,Zd,if_false];exact h2
end
end VX
namespace K47
open PySem L2 VF VL VX
noncomputable def TI(i j:Int):D:=.tup [.str "turn",.int i,.int j]
noncomputable def CI(i j k l:Int):D:=.tup [.str "change",.int i,.int j,.int k,.int l]
noncomputable def lW(i j n:Int):Bool:=decide (0<=i)&&(decide (i<j)&&decide (j<=n))
noncomputable def lX(i j k l n:Int):Bool:=decide (0<=i)&&(decide (i<j)&&(decide (j<=k)&&(decide (k<l)&&decide (l<=n))))
theorem rT(ps:Bs)(i j:Int):m5 [LD ps,.int i,.int j]=some (!lW i j ps.length):=by
 have e:mZ [.v (LD ps),.v (.int i),.v (.int j)]=some (!lW i j ps.length,[.v (LD ps),.v (.int i),.v (.int j)]) :=
  gf (aQ (ie rfl (dY rfl rfl rfl rfl (dY rfl rfl rfl rfl (cM (df rfl rfl (ig ps)) rfl rfl rfl)))) rfl)
 exact congrArg (Option.map (·.1)) e
theorem rC(ps:Bs)(i j k l:Int):jq [LD ps,.int i,.int j,.int k,.int l]=some (!lX i j k l ps.length):=by
 have e:jp [.v (LD ps),.v (.int i),.v (.int j),.v (.int k),.v (.int l)]=some (!lX i j k l ps.length,[.v (LD ps),.v (.int i),.v (.int j),.v (.int k),.v (.int l)]) :=
  gf (aQ (ie rfl (dY rfl rfl rfl rfl (dY rfl rfl rfl rfl (dY rfl rfl rfl rfl (dY rfl rfl rfl rfl (cM (df rfl rfl (ig ps)) rfl rfl rfl)))))) rfl)
 exact congrArg (Option.map (·.1)) e
theorem fT(i j n:Int):cw [TI i j,.int n]=some (.bl (lW i j n),false):=by
 refine bh (o:=.rt (.d (.bl (lW i j n))) [.v (TI i j),.v (.int n)]) rfl ?_ rfl;exact dw (d5 (s:=[.v (TI i j),.v (.int n)]) rfl (aO (ie rfl (dY rfl rfl rfl rfl (dY rfl rfl rfl rfl (cM rfl rfl rfl rfl))))))
theorem fC'(i j k l n:Int):cw [CI i j k l,.int n]=some (.bl (lX i j k l n),false):=by
 refine bh (o:=.rt (.d (.bl (lX i j k l n))) [.v (CI i j k l),.v (.int n)]) rfl ?_ rfl;exact ap (eQ (s:=[.v (CI i j k l),.v (.int n)]) rfl rfl) (aO (ie rfl (dY rfl rfl rfl rfl (dY rfl rfl rfl rfl (dY rfl rfl rfl rfl (dY rfl rfl rfl rfl (cM rfl rfl rfl rfl)))))))
theorem rJ{ps:Bs}{d:D}(h:cw [d,.int ps.length]=some (.bl false,false)):dF [LD ps,d]=some (.tup [.bl true,.non],false):=by
 refine bh (o:=.rt (.d (.tup [.bl true,.non])) [.v (LD ps),.v d]) rfl ?_ rfl;exact dw (d5 (s:=[.v (LD ps),.v d]) (gf (aQ (bZ (aB rfl (aB (df rfl rfl (ig ps)) rfl)) rfl h rfl) rfl)) (aO (eS rfl rfl (by show 2<=1000000;decide))))
theorem oF{ps:Bs}{d r:D}(h:cw [d,.int ps.length]=some (.bl true,false))(h2:bA [LD ps,d]=some (r,false)):dF [LD ps,d]=some (.tup [.bl false,r],false):=by
 refine bh (o:=.rt (.d (.tup [.bl false,r])) [.v (LD ps),.v d]) rfl ?_ rfl;exact ap (eQ (s:=[.v (LD ps),.v d]) (gf (aQ (bZ (aB rfl (aB (df rfl rfl (ig ps)) rfl)) rfl h rfl) rfl)) rfl) (aO (eS (aB rfl (aB (cH rfl rfl h2) rfl)) rfl (by show 2<=1000000;decide)))
theorem xT{ps:Bs}{i j:Int}{r:D}(hf:lW i j ps.length=true)(h:kP [LD ps,.int i,.int j]=some (r,false)):bP [LD ps,TI i j]=some (.tup [.bl false,r],false):=by
 refine bh (o:=.rt (.d (.tup [.bl false,r])) [.v (LD ps),.v (TI i j),.v r,.v (.bl false),.e]) rfl ?_ rfl;refine ap (s:=[.v (LD ps),.v (TI i j),.v .non,.e,.e]) rfl (ap (s:=[.v (LD ps),.v (TI i j),.v .non,.v (.bl false),.e]) rfl (ap (s:=[.v (LD ps),.v (TI i j),.v r,.v (.bl false),.e]) (uN (uP (s:=[.v (LD ps),.v (TI i j),.v .non,.v (.bl false),.e]) rfl (oE rfl rfl ((rT ps i j).trans (by rw[hf];rfl)) (bY (cH rfl rfl h) rfl)))) (aO (eS rfl rfl (by show 2<=1000000;decide)))))
theorem tU{ps:Bs}{i j:Int}(hf:lW i j ps.length=false):bP [LD ps,TI i j]=some (.tup [.bl true,.non],false):=by
 refine bh (o:=.rt (.d (.tup [.bl true,.non])) [.v (LD ps),.v (TI i j),.v .non,.v (.bl true),.e]) rfl ?_ rfl;refine ap (s:=[.v (LD ps),.v (TI i j),.v .non,.e,.e]) rfl (ap (s:=[.v (LD ps),.v (TI i j),.v .non,.v (.bl false),.e]) rfl (ap (s:=[.v (LD ps),.v (TI i j),.v .non,.v (.bl true),.e]) (uO (uP (s:=[.v (LD ps),.v (TI i j),.v .non,.v (.bl false),.e]) rfl (oD rfl rfl ((rT ps i j).trans (by rw[hf];rfl)))) rfl (by decide) rfl) (aO (eS rfl rfl (by show 2<=1000000;decide)))))
theorem xU{ps:Bs}{i j k l:Int}{r:D}(hf:lX i j k l ps.length=true)(h:gM [LD ps,.int i,.int j,.int k,.int l]=some (r,false)):bP [LD ps,CI i j k l]=some (.tup [.bl false,r],false):=by
 refine bh (o:=.rt (.d (.tup [.bl false,r])) [.v (LD ps),.v (CI i j k l),.v r,.v (.bl false),.e]) rfl ?_ rfl;refine ap (s:=[.v (LD ps),.v (CI i j k l),.v .non,.e,.e]) rfl (ap (s:=[.v (LD ps),.v (CI i j k l),.v .non,.v (.bl false),.e]) rfl (ap (s:=[.v (LD ps),.v (CI i j k l),.v r,.v (.bl false),.e]) (uN (uQ (s:=[.v (LD ps),.v (CI i j k l),.v .non,.v (.bl false),.e]) rfl (oE rfl rfl ((rC ps i j k l).trans (by rw[hf];rfl)) (bY (cH rfl rfl h) rfl)))) (aO (eS rfl rfl (by show 2<=1000000;decide)))))
theorem tV{ps:Bs}{i j k l:Int}(hf:lX i j k l ps.length=false):bP [LD ps,CI i j k l]=some (.tup [.bl true,.non],false):=by
 refine bh (o:=.rt (.d (.tup [.bl true,.non])) [.v (LD ps),.v (CI i j k l),.v .non,.v (.bl true),.e]) rfl ?_ rfl;refine ap (s:=[.v (LD ps),.v (CI i j k l),.v .non,.e,.e]) rfl (ap (s:=[.v (LD ps),.v (CI i j k l),.v .non,.v (.bl false),.e]) rfl (ap (s:=[.v (LD ps),.v (CI i j k l),.v .non,.v (.bl true),.e]) (uO (uQ (s:=[.v (LD ps),.v (CI i j k l),.v .non,.v (.bl false),.e]) rfl (oD rfl rfl ((rC ps i j k l).trans (by rw[hf];rfl)))) rfl (by decide) rfl) (aO (eS rfl rfl (by show 2<=1000000;decide)))))
theorem tW{ps:Bs}{i j:Nat}(hn:∀p∈ps,Nm p.2)(hl:ps.length<=300)(h1:i<j)(h2:j<=ps.length):bA [LD ps,TI i j]=some (LD (iy ps i j),false):=by
 refine bh (o:=.rt (.d (LD (iy ps i j))) [.v (LD ps),.v (TI i j)]) rfl ?_ rfl;exact dw (d5 (s:=[.v (LD ps),.v (TI i j)]) rfl (aO (cH rfl rfl (nk hn hl h1 h2))))
theorem tX{ps:Bs}{i j k l:Nat}(hl:ps.length<=300)(h1:i<j)(h2:j<=k)(h3:k<l)(h4:l<=ps.length):bA [LD ps,CI i j k l]=some (LD (dh ps i j k l),false):=by
 refine bh (o:=.rt (.d (LD (dh ps i j k l))) [.v (LD ps),.v (CI i j k l)]) rfl ?_ rfl;exact ap (eQ (s:=[.v (LD ps),.v (CI i j k l)]) rfl rfl) (aO (cH rfl rfl (lV hl h1 h2 h3 h4)))
theorem uR:Dp 4 (.tup [.bl true,.non]):=.tup (by show 2<=1000000;decide) fun d hd=>by
 rcases Wg.mp hd with rfl|hd
 ·exact .bl 2 _
 ·obtain rfl:=Ze.mp hd;exact .non 2
theorem rK{ps:Bs}(h:ps.length<=1000000):Dp 4 (.tup [.bl false,LD ps]):=.tup (by show 2<=1000000;decide) fun d hd=>by
 rcases Wg.mp hd with rfl|hd
 ·exact .bl 2 _
 ·obtain rfl:=Ze.mp hd;exact .tup (by rw[Xb];exact h) fun d hd=>by
   obtain⟨x,_,rfl⟩:=Yi.mp hd;exact .str 1 _
theorem rL(ps:Bs)(i j:Nat):(iy ps i j).length<=3*ps.length:=by
 unfold iy;rw[Wb,Wb,fj,Zc,Zc,Wc,Wc];lia
theorem nl(ps:Bs)(i j k l:Nat):(dh ps i j k l).length<=5*ps.length:=by
 unfold dh;simp only[Wb,Zc,Wc];lia
noncomputable def Dd(d:D):Prop:=(∃i j,d=TI i j)∨∃i j k l,d=CI i j k l
theorem same{ps:Bs}{d:D}(hn:∀p∈ps,Nm p.2)(hl:ps.length<=300)(hd:Dd d):∃r,bP [LD ps,d]=some (r,false)/\dF [LD ps,d]=some (r,false)/\Dp 4 r:=by
 rcases hd with⟨i,j,rfl⟩|⟨i,j,k,l,rfl⟩
 ·by_cases c:lW i j ps.length=true
  ·have c':=c;unfold lW at c';simp only[Vc,decide_eq_true_eq]at c';obtain⟨a1,a2,a3⟩:=c';obtain⟨i,rfl⟩:=Yd a1;obtain⟨j,rfl⟩:=Yd (show 0<=j by lia)
   refine⟨_,xT c (tT hn hl (by lia) (by lia)),oF ((fT _ _ _).trans (by rw[c])) (tW hn hl (by lia) (by lia)),rK ?_⟩
   have:=rL ps i j;lia
  ·have c:=Bool.eq_false_iff.mpr c;exact⟨_,tU c,rJ ((fT _ _ _).trans (by rw[c])),uR⟩
 ·by_cases c:lX i j k l ps.length=true
  ·have c':=c;unfold lX at c';simp only[Vc,decide_eq_true_eq]at c';obtain⟨a1,a2,a3,a4,a5⟩:=c';obtain⟨i,rfl⟩:=Yd a1;obtain⟨j,rfl⟩:=Yd (show 0<=j by lia)
   obtain⟨k,rfl⟩:=Yd (show 0<=k by lia)
   obtain⟨l,rfl⟩:=Yd (show 0<=l by lia)
   refine⟨_,xU c (pA hl (by lia) (by lia) (by lia) (by lia)),oF ((fC' _ _ _ _ _).trans (by rw[c])) (tX hl (by lia) (by lia) (by lia) (by lia)),rK ?_⟩
   have:=nl ps i j k l;lia
  ·have c:=Bool.eq_false_iff.mpr c;exact⟨_,tV c,rJ ((fC' _ _ _ _ _).trans (by rw[c])),uR⟩
end K47
namespace VF
open PySem L2
theorem tY{xs:List D}{k:Nat}{y:D}(h:k<xs.length):gJ (.lst xs) (.int (k:Int)) y=some (.lst (xs.set k y)):=by
 show(ixN xs.length (k:Int)).bind (fun j=>some (D.lst (xs.set j y)))=_;have:ixN xs.length (k:Int)=some k:=by
  unfold ixN;rw[if_pos (Yj k),if_pos (by lia)];rfl
 rw[this];rfl
theorem jr{fa:FA}{st s1 s2:En}{rs:List Rs}{ds:List D}(h1:fa st=some (rs,s1))(h2:b6 rs s1=some (ds,s2))(h3:ds.length<=1000000):fO fa st=some (.f (.lst ds),s2):=by
 simp only[fO,h1,h2,Za];rw[if_pos h3]
end VF
namespace K47
open PySem L2 VF VL VX
noncomputable def wd(c:Bool):Str:=if c then "change" else "turn"
noncomputable def rm(c:Bool):Nat:=if c then 2 else 1
noncomputable def DdD(c:Bool)(is:List Int):List D:=.str (wd c)::is.map D.int
theorem xI(c:Bool):1<=rm c/\rm c<=2:=by cases c<;>decide
theorem tZ{φ:D}{n:Int}(c:Bool)(hφ:bJ φ)(h0:rm c<=n)(h1:n<=40):∃(is:List Int)(φ':D),cB φ [.str (wd c),.int n]=some ((.tup (DdD c is),false),φ')/\is.length=2*rm c/\bJ φ':=by
 cases c with
 | false =>
  have h0:1<=n:=h0;obtain⟨i,φ1,e1,i0,i1,f1⟩:=aU (n:=n) hφ (by lia) (by lia)
  obtain⟨p,φ2,e2,p0,p1,f2⟩:=aU (n:=n-i) f1 (by lia) (by lia)
  refine⟨[i,i+1+p],φ2,?_,rfl,f2⟩;refine bG (o:=.rt (.d (.tup (DdD false [i,i+1+p]))) [.io φ2,.v (.str (wd false)),.v (.int n),.v (.int i),.e,.e,.e]) rfl ?_ rfl;refine dw (d5 (s:=[.io φ,.v (.str (wd false)),.v (.int n),.e,.e,.e,.e]) rfl ?_);refine ap (bY (bc rfl rfl rfl rfl rfl rfl e1) rfl) ?_;exact aO (eS (aB rfl (aB rfl (aB (aw rfl (bc rfl rfl (aB rfl rfl) rfl rfl rfl e2) rfl rfl rfl) rfl))) rfl (by show 3<=1000000;decide))
 | true =>
  have h0:2<=n:=h0;obtain⟨i,φ1,e1,i0,i1,f1⟩:=aU (n:=n-1) hφ (by lia) (by lia)
  obtain⟨p,φ2,e2,p0,p1,f2⟩:=aU (n:=n-1-i) f1 (by lia) (by lia)
  obtain⟨q,φ3,e3,q0,q1,f3⟩:=aU (n:=n-(i+1+p)) f2 (by lia) (by lia)
  obtain⟨r,φ4,e4,r0,r1,f4⟩:=aU (n:=n-(i+1+p+q)) f3 (by lia) (by lia)
  refine⟨[i,i+1+p,i+1+p+q,i+1+p+q+1+r],φ4,?_,rfl,f4⟩;refine bG (o:=.rt (.d (.tup (DdD true [i,i+1+p,i+1+p+q,i+1+p+q+1+r]))) [.io φ4,.v (.str (wd true)),.v (.int n),.v (.int i),.v (.int (i+1+p)),.v (.int (i+1+p+q)),.v (.int (i+1+p+q+1+r))]) rfl ?_ rfl;refine ap (eQ (s:=[.io φ,.v (.str (wd true)),.v (.int n),.e,.e,.e,.e]) rfl rfl) ?_;refine ap (bY (bc rfl rfl (aB rfl rfl) rfl rfl rfl e1) rfl) ?_;refine ap (bY (aw rfl (bc rfl rfl (aB rfl rfl) rfl rfl rfl e2) rfl rfl rfl) rfl) ?_;refine ap (bY (aw rfl (bc rfl rfl (aB rfl rfl) rfl rfl rfl e3) rfl rfl rfl) rfl) ?_;refine ap (bY (aw rfl (bc rfl rfl (aB rfl rfl) rfl rfl rfl e4) rfl rfl rfl) rfl) ?_;exact aO (eS rfl rfl (by show 5<=1000000;decide))
theorem rM{φ:D}{n:Int}(m:Nat)(hφ:bJ φ)(h0:0<=n)(h1:n<=40):∃(is:List Int)(φ':D),cY (gN 0) fN bT 1 (rng 0 m) [.e,.io φ,.v (.int n)]=some (is.map D.int,[.e,.io φ',.v (.int n)])/\is.length=m/\bJ φ':=by
 obtain⟨ds,sf,e,hl,φ',is,rfl,f,e2⟩:=hV (fg:=gN 0) (fc:=fN) (fe:=bT) (k:=1) (fun pre sb=>∃(φ':D)(is:List Int),sb=[.e,.io φ',.v (.int n)]/\bJ φ'/\pre=is.map D.int)
  (by
   rintro pre x sb ⟨φ',is,rfl,hf,rfl⟩;obtain⟨d,φ2,e,d0,d1,f2⟩:=aU (n:=n+5) hf (by lia) (by lia)
   refine⟨[.v x,.io φ',.v (.int n)],[.v x,.io φ',.v (.int n)],.d (.int (d-2)),[.v x,.io φ2,.v (.int n)],.int (d-2),[.v x,.io φ2,.v (.int n)],rfl,rfl,?_,rfl,φ2,is++[d-2],rfl,f2,by rw[Yh];rfl⟩
   exact aw (bc rfl rfl (aB rfl rfl) rfl rfl rfl e) rfl rfl rfl rfl)
  (rng 0 m) [] [.e,.io φ,.v (.int n)] ⟨φ,[],rfl,hφ,rfl⟩
 rw[List.nil_append]at e2;subst e2;exact⟨is,φ',e,by rw[Xb,b5]at hl;exact hl,f⟩
theorem t4(c:Bool):bIndex (.lst [.str "turn",.str "change"]) [.str (wd c)]=some (.int (if c then 1 else 0),false):=by
 have ix:∀{b:Str}{ys:List Str},b∈ys->bIndex (.lst (ys.map D.str)) [.str b]=some (.int (ys.idxOf b:Nat),false):=fun {b ys} h=>by
  show(eK (ys.map D.str)).bind (fun zs=>if b∈zs then some (D.int (zs.idxOf b:Nat),false) else none)=_;rw[gh];exact if_pos h
 cases c with
 | true=>exact(ix (ys:=["turn","change"]) (by decide +kernel)).trans (congrArg (fun n:Nat=>some (D.int (n:Int),false)) (by decide +kernel:([("turn":Str),"change"].idxOf (wd true))=1))
 | false=>exact(ix (ys:=["turn","change"]) (by decide +kernel)).trans (congrArg (fun n:Nat=>some (D.int (n:Int),false)) (by decide +kernel:([("turn":Str),"change"].idxOf (wd false))=0))
theorem xJ(c:Bool):bC (.int (if c then 1 else 0)) (.int 1)=some (.int (rm c:Nat),false):=by cases c<;>rfl
theorem lY(c:Bool):d4 (.int 2) (.int (rm c:Nat))=some (.int ((2*rm c:Nat):Int),false):=by cases c<;>rfl
theorem wo{φ:D}{n:Int}(c:Bool)(hφ:bJ φ)(h0:0<=n)(h1:n<=40):∃(is:List Int)(φ':D),cV φ [.str (wd c),.int n]=some ((.tup (DdD c is),false),φ')/\is.length=2*rm c/\bJ φ':=by
 obtain⟨m1,m2⟩:=xI c;have sp:∃A B R,cU=aJ A (aJ (bF (fO (ad (ac 1) av)) 4) (aJ B R)) /\
   A [.io φ,.v (.str (wd c)),.v (.int n),.e,.e,.e,.e]=some (.nx [.io φ,.v (.str (wd c)),.v (.int n),.v (.int (rm c:Nat)),.e,.e,.e]) /\
   (∃(is:List Int)(φ':D),B [.io φ,.v (.str (wd c)),.v (.int n),.v (.int (rm c:Nat)),.o (.lst [.str (wd c)]),.e,.e]=some (.nx [.io φ',.v (.str (wd c)),.v (.int n),.v (.int (rm c:Nat)),.o (.lst (DdD c is)),.e,.e])/\is.length=2*rm c/\bJ φ') /\
   (∀(is:List Int)(φ1:D),is.length=2*rm c->bJ φ1->∃(is':List Int)(φ':D)(s:En),R [.io φ1,.v (.str (wd c)),.v (.int n),.v (.int (rm c:Nat)),.o (.lst (DdD c is)),.e,.e]=some (.rt (.d (.tup (DdD c is'))) (.io φ'::s))/\is'.length=2*rm c/\bJ φ'):=by
  refine⟨_,_,_,rfl,bY (aw (uD (jr rfl rfl (by show 2<=1000000;decide)) rfl rfl rfl rfl rfl (t4 c)) rfl rfl rfl (xJ c)) rfl,?_,?_⟩
  ·have ext:∀φ1,bJ φ1->∃(is:List Int)(φ':D),gF (fM isL iP 4 (ad (ef 1 [0,2] (jD (ad (fOp d4 (fC (.int 2)) (ac 3)) av)) (gN 0) fN bT) av)) [.io φ1,.v (.str (wd c)),.v (.int n),.v (.int (rm c:Nat)),.o (.lst [.str (wd c)]),.e,.e]=some (.nx [.io φ',.v (.str (wd c)),.v (.int n),.v (.int (rm c:Nat)),.o (.lst (DdD c is)),.e,.e])/\is.length=2*rm c/\bJ φ':=fun φ1 f1=>by
    obtain⟨is,φ',e,hl,f⟩:=rM (2*rm c) f1 h0 h1;refine⟨is,φ',iQ (qH rfl rfl rfl (aB (dO (fG (j:=((2*rm c:Nat):Int)) (aB (aw rfl rfl rfl rfl (lY c)) rfl) rfl ⟨by lia,by lia⟩) (xG (n:=4) (by rw[b5];lia) rfl) (by rw[Wj];exact e)) rfl) rfl rfl rfl (tj ?_)),hl,f⟩
    rw[Xb,hl];show 1+2*rm c<=1000000;lia
   by_cases w:n<(rm c:Nat)
   ·obtain⟨is,φ',e,hl,f⟩:=ext φ hφ;exact⟨is,φ',d5 (s:=[.io φ,.v (.str (wd c)),.v (.int n),.v (.int (rm c:Nat)),.o (.lst [.str (wd c)]),.e,.e]) (xP (dU (aQ (aw rfl rfl rfl rfl (z:=(.bl (decide (n<(rm c:Nat))),false)) rfl) rfl) (decide_eq_true w))) e,hl,f⟩
   ·obtain⟨d,φ1,e1,d0,d1,f1⟩:=aU (n:=6) hφ (by decide) (by decide)
    have o1:aX (fOp bLt (ac 2) (ac 3)) [.io φ,.v (.str (wd c)),.v (.int n),.v (.int (rm c:Nat)),.o (.lst [.str (wd c)]),.e,.e]=some (false,[.io φ,.v (.str (wd c)),.v (.int n),.v (.int (rm c:Nat)),.o (.lst [.str (wd c)]),.e,.e]):=dU (aQ (aw rfl rfl rfl rfl (z:=(.bl (decide (n<(rm c:Nat))),false)) rfl) rfl) (decide_eq_false w);by_cases z:d=0
    ·subst z;obtain⟨is,φ',e,hl,f⟩:=ext φ1 f1;exact⟨is,φ',d5 (xg o1 (aQ (aw (bc rfl rfl rfl rfl rfl rfl e1) rfl rfl rfl rfl) rfl)) e,hl,f⟩
    ·obtain⟨is,φ',e,hl,f⟩:=tZ c f1 (by lia) h1
     refine⟨is,φ',eQ (xg o1 (dU (aQ (aw (bc rfl rfl rfl rfl rfl rfl e1) rfl rfl rfl rfl) rfl) (decide_eq_false fun w=>z (V.int.inj w)))) ?_,hl,f⟩;exact oa (df (aB (bc rfl rfl rfl rfl rfl rfl e) rfl) rfl rfl) rfl
  ·intro is φ1 hl f1;obtain⟨d,φ2,e2,d0,d1,f2⟩:=aU (n:=2) f1 (by decide) (by decide)
   by_cases z:d=1
   ·subst z;obtain⟨p,φ3,e3,p0,p1,f3⟩:=aU (n:=((2*rm c:Nat):Int)) f2 (by lia) (by lia)
    obtain⟨p,rfl⟩:=Yd p0;obtain⟨g,φ4,e4,g0,g1,f4⟩:=aU (n:=1000) f3 (by decide) (by decide)
    obtain⟨y,φ5,e5,y0,y1,f5⟩:=aU (n:=n+5) f4 (by lia) (by lia)
    obtain⟨q,φ6,e6,q0,q1,f6⟩:=aU (n:=5) f5 (by decide) (by decide)
    have hp:p<is.length:=by lia
    have eA:bC (.int 1) (.int (p:Nat))=some (.int ((p+1:Nat):Int),false):=by
     have:((p+1:Nat):Int)=1+(p:Int):=by lia
     rw[this];rfl
    have eG:d4 (.int (g+1)) (.int (10 ^ (20:Int).toNat))=some (.int ((g+1)*10 ^ (20:Int).toNat),false):=kZ (.inl ⟨by lia,by lia⟩)
    generalize hG:(g+1)*10 ^ (20:Int).toNat=G at eG
    have eX:bIx (.lst (DdD c is)) (.int ((p+1:Nat):Int))=some (.int is[p],false):=ib (gx (by
     show(is.map D.int)[p]?=_
     rw[Qc,Va hp];rfl))
    obtain⟨v,hv⟩:∃v:Int,bIx (.lst [.int (is[p]-1),.int (is[p]+1),.int (y-2),.int G,.int (-G)]) (.int q)=some (.int v,false):=by
     obtain⟨u,hu,hm,_⟩:=kA (xs:=[is[p]-1,is[p]+1,y-2,G,-G].map D.int) q0 q1;obtain⟨v,_,rfl⟩:=Yi.mp hm;exact⟨v,ib hu⟩
    have hs:(DdD c is).set (p+1) (.int v)=DdD c (is.set p v):=by
     show D.str (wd c)::(is.map D.int).set p (.int v)=_;rw[← List.map_set];rfl
    refine⟨is.set p v,φ6,[.v (.str (wd c)),.v (.int n),.v (.int (rm c:Nat)),.o (.lst (DdD c (is.set p v))),.v (.int ((p+1:Nat):Int)),.v (.int G)],?_,by rw[List.length_set];exact hl,f6⟩
    refine ap (s:=[.io φ6,.v (.str (wd c)),.v (.int n),.v (.int (rm c:Nat)),.o (.lst (DdD c (is.set p v))),.v (.int ((p+1:Nat):Int)),.v (.int G)]) ?_ (aO (df rfl rfl rfl));refine d5 (s:=[.io φ2,.v (.str (wd c)),.v (.int n),.v (.int (rm c:Nat)),.o (.lst (DdD c is)),.e,.e]) (aQ (aw (bc rfl rfl rfl rfl rfl rfl e2) rfl rfl rfl rfl) rfl) ?_;refine ap (s:=[.io φ3,.v (.str (wd c)),.v (.int n),.v (.int (rm c:Nat)),.o (.lst (DdD c is)),.v (.int ((p+1:Nat):Int)),.e]) (bY (aw rfl (bc rfl rfl (aB (aw rfl rfl rfl rfl (lY c)) rfl) rfl rfl rfl e3) rfl rfl eA) rfl) ?_;refine ap (s:=[.io φ4,.v (.str (wd c)),.v (.int n),.v (.int (rm c:Nat)),.o (.lst (DdD c is)),.v (.int ((p+1:Nat):Int)),.v (.int G)]) (bY (aw (aw (bc rfl rfl rfl rfl rfl rfl e4) rfl rfl rfl rfl) (aw rfl rfl rfl rfl rfl) rfl rfl eG) rfl) ?_;refine la (aw (jr (aB (aw (aw rfl rfl rfl rfl eX) rfl rfl rfl rfl) (aB (aw (aw rfl rfl rfl rfl eX) rfl rfl rfl rfl) (aB (aw (bc rfl rfl (aB rfl rfl) rfl rfl rfl e5) rfl rfl rfl rfl) rfl))) rfl (by show 5<=1000000;decide)) (bc rfl rfl rfl rfl rfl rfl e6) rfl rfl hv) rfl rfl rfl rfl rfl rfl rfl (tY (by show p+1<(is.map D.int).length+1;rw[Xb];lia)) (by rw[hs];rfl)
   ·refine⟨is,φ2,[.v (.str (wd c)),.v (.int n),.v (.int (rm c:Nat)),.o (.lst (DdD c is)),.e,.e],?_,hl,f2⟩;exact ap (eQ (dU (aQ (aw (bc rfl rfl rfl rfl rfl rfl e2) rfl rfl rfl rfl) rfl) (decide_eq_false fun w=>z (V.int.inj w))) rfl) (aO (df rfl rfl rfl))
 obtain⟨A,B,R,eF,eA,⟨is,φ1,eB,hl,f1⟩,hR⟩:=sp;obtain⟨is',φ',s,eR,hl',f'⟩:=hR is φ1 hl f1;refine⟨is',φ',?_,hl',f'⟩;refine bG (o:=.rt (.d (.tup (DdD c is'))) (.io φ'::s)) rfl ?_ rfl;rw[eF];exact ap eA (ap (oa (jr rfl rfl (by show 1<=1000000;decide)) rfl) (ap eB eR))
theorem xK{c:Bool}{is:List Int}(h:is.length=2*rm c):Dd (.tup (DdD c is)):=by
 cases c with
 | false =>
  match is,h with
  | [i,j],_=>exact .inl ⟨i,j,rfl⟩
 | true =>
  match is,h with
  | [i,j,k,l],_=>exact .inr ⟨i,j,k,l,rfl⟩
theorem wp{d:Int}(c:¬ d=0):decide (V.int d=V.int 0)=false:=decide_eq_false fun z=>c (V.int.inj z)
theorem t5{q:Int}(h0:0<=q)(h1:q<2):∃c,bIx (.lst [.str "turn",.str "change"]) (.int q)=some (.str (wd c),false):=by
 by_cases z:q=0
 ·subst z;exact⟨false,rfl⟩
 ·have:q=1:=by lia
  subst this;exact⟨true,rfl⟩
theorem t6(ns:List Int):bu rn 7 1 [.fl (ns.map D.int)]=some (.bl true,false):=by
 have f0:bJ (Fl ns 0 0 1 0):=⟨ns,0,0,1,0,rfl,by decide,by decide,by decide,by decide⟩
 obtain⟨d1,φ1,e1,d10,d11,f1⟩:=aU (n:=10) f0 (by decide) (by decide)
 obtain⟨d2,φ2,e2,d20,d21,f2⟩:=aU (n:=4) f1 (by decide) (by decide)
 generalize hS:D.fl (ns.map D.int)=S;have sp:∃A B C R,rn=aJ A (aJ B (aJ C R)) /\
   A [.v S,.e,.e,.e,.e,.e,.e]=some (.nx [.v S,.o (Fl ns 0 0 1 0),.e,.e,.e,.e,.e]) /\
   B [.v S,.o (Fl ns 0 0 1 0),.e,.e,.e,.e,.e]=some (.nx [.v S,.o φ1,.v (.int d1),.e,.e,.e,.e]) /\
   (∃(n:Nat)(φ3:D),C [.v S,.o φ1,.v (.int d1),.e,.e,.e,.e]=some (.nx [.v S,.o φ3,.v (.int n),.e,.e,.e,.e])/\n<=40/\bJ φ3) /\
   (∀(n:Nat)(φ3:D),n<=40->bJ φ3->∃s,R [.v S,.o φ3,.v (.int n),.e,.e,.e,.e]=some (.rt (.d (.bl true)) s)):=by
  refine⟨_,_,_,_,rfl,oa (cH rfl rfl (hS ▸ tK ns)) rfl,bY (bc rfl rfl rfl rfl rfl rfl e1) rfl,?_,?_⟩
  ·by_cases c:d2=0
   ·subst c;obtain⟨d3,φ3,e3,d30,d31,f3⟩:=aU (n:=41) f2 (by decide) (by decide)
    obtain⟨n,rfl⟩:=Yd d30;refine⟨n,φ3,?_,by lia,f3⟩
    refine d5 (s:=[.v S,.o φ2,.v (.int d1),.e,.e,.e,.e]) (aQ (aw (bc rfl rfl rfl rfl rfl rfl e2) rfl rfl rfl rfl) rfl) ?_;exact bY (bc rfl rfl rfl rfl rfl rfl e3) rfl
   ·obtain⟨n,rfl⟩:=Yd d10;refine⟨n,φ2,?_,by lia,f2⟩
    exact eQ (s:=[.v S,.o φ2,.v (.int n),.e,.e,.e,.e]) (dU (aQ (aw (bc rfl rfl rfl rfl rfl rfl e2) rfl rfl rfl rfl) rfl) (wp c)) rfl
  ·intro n φ3 hn f3;obtain⟨xs,φ4,e4,hxl,nm,nd,f4⟩:=rF (n:=(n:Int)) f3 (by lia) (by lia)
   obtain⟨ps,φ6,e6,pl,f6⟩:=tN f4 (by lia) nm
   have hpl:ps.length=n:=by have:=pl.length_eq;rw[Xb]at this;lia
   have np:∀p∈ps,Nm p.2:=fun p hp=>nm _ (pl.mem_iff.mp (List.mem_map_of_mem hp));obtain⟨sf,eL,φ7,ds,o5,rfl,f7,hds,hdl,q5⟩:=je (fg:=gN 5) (B:=ou) (rng 0 2) (fun gone st=>∃(φ:D)(ds:List D)(o5:Sl),st=[.v S,.o φ,.v (.int n),.v (LD ps),.o (.lst ds),o5,.e]/\bJ φ/\(∀d∈ds,Dd d)/\ds.length=gone.length/\o5.isIo=false)
    (by
     rintro gone x rest st ha ⟨φ,ds,o5,rfl,hf,hd,hl,q⟩;have hg:=congrArg List.length ha;rw[b5,Wb]at hg;obtain⟨w,φa,ea,w0,w1,fa⟩:=aU (n:=2) hf (by decide) (by decide)
     obtain⟨c,ec⟩:=t5 w0 w1;obtain⟨is,φb,eb,hi,fb⟩:=wo (n:=(n:Int)) c fa (by lia) (by lia)
     refine⟨[.v S,.o φ,.v (.int n),.v (LD ps),.o (.lst ds),.v x,.e],[.v S,.o φb,.v (.int n),.v (LD ps),.o (.lst (ds++[.tup (DdD c is)])),.v x,.e],gQ rfl q,?_,φb,_,.v x,rfl,fb,?_,by rw[Wb,Wb,hl];rfl,rfl⟩
     ·refine iQ (qH rfl rfl rfl (aB (bc rfl rfl (aB (aw (jr rfl rfl (by show 2<=1000000;decide)) (bc rfl rfl rfl rfl rfl rfl ea) rfl rfl ec) rfl) rfl rfl rfl eb) rfl) rfl rfl rfl (nj ?_))
      lia
     ·intro d hd';rcases Qf.mp hd' with h|h
      ·exact hd d h
      ·rw[Ze.mp h];exact xK hi)
    (rng 0 2) [] [.v S,.o φ6,.v (.int n),.v (LD ps),.o (.lst []),.e,.e] rfl ⟨φ6,[],.e,rfl,f6,fun d h=>(by cases h),rfl,rfl⟩
   have eI:fIA (fOp bH (ac 4) (fSl bW (ac 4) oNo (aZ (fC (.int 1))))) [.v S,.o φ7,.v (.int n),.v (LD ps),.o (.lst ds),o5,.e]=some (ds++ds.take 1,[.v S,.o φ7,.v (.int n),.v (LD ps),.o (.lst ds),o5,.e]):=by
    refine uG (aw rfl (ci rfl rfl rfl rfl rfl) rfl rfl (qN ?_)) ?_
    ·show ds.length+(cutD ds none (some ((1:Nat):Int))).length<=1000000;rw[oh,Zc,hdl,b5];lia
    ·show some (D.lst (ds++cutD ds none (some ((1:Nat):Int))),_)=_;rw[oh]
   obtain⟨sg,eM,o6,rfl,_⟩:=lP (fg:=gN 6) (B:=oy) (ds++ds.take 1) (fun _ st=>∃o6:Sl,st=[.v S,.o φ7,.v (.int n),.v (LD ps),.o (.lst ds),o5,o6]/\o6.isIo=false)
    (by
     rintro gone x st hx ⟨o6,rfl,q⟩;have hd:Dd x:=by
      rcases Qf.mp hx with h|h
      ·exact hds x h
      ·exact hds x (List.mem_of_mem_take h)
     obtain⟨r,g1,g2,g3⟩:=same np (by lia) hd
     refine⟨[.v S,.o φ7,.v (.int n),.v (LD ps),.o (.lst ds),o5,.v x],_,gQ rfl q,?_,.v x,rfl,rfl⟩
     exact eQ (gf (aQ (bZ (aB (cH rfl rfl g1) (aB (cH rfl rfl g2) rfl)) rfl (jd g3) rfl) rfl)) rfl)
    (ds++ds.take 1) [] [.v S,.o φ7,.v (.int n),.v (LD ps),.o (.lst ds),o5,.e] (fun _ h=>h) ⟨.e,rfl,rfl⟩
   refine⟨[.v S,.o φ7,.v (.int n),.v (LD ps),.o (.lst ds),o5,o6],?_⟩;refine ap (bY (bc rfl rfl (aB (bc rfl rfl rfl rfl rfl rfl e4) rfl) rfl rfl rfl e6) rfl) ?_;refine ap (oa (jr rfl rfl (by show 0<=1000000;decide)) rfl) ?_
   refine ap (mT (fG (j:=2) rfl rfl ⟨by decide,by decide⟩) eL) ?_
   exact ap (mT eI eM) rfl
 obtain⟨A,B,C,R,eF,eA,eB,⟨k,φ3,eC,k1,f3⟩,hR⟩:=sp;obtain⟨s,eR⟩:=hR k φ3 k1 f3;refine bh (o:=.rt (.d (.bl true)) s) rfl ?_ rfl;rw[eF];exact ap eA (ap eB (ap eC eR))
end K47
namespace VF22
open PySem L2 VF
theorem wq{X:Cx}{e:Expr}{t:TE}(h:PEi X e t):PE X e t:=by
 unfold PEi at h;exact h
end VF22
namespace K47
open PySem L2 VF VF22 VX
section
variable (P:Program)(w:World)(K:PySem.W.Frag)(mg:Str->Option Value)(base:Heap)
variable (cC:Addr)
noncomputable abbrev fm:=Cal P w K mg base "is_turned" 1 ["bead"] (spV K cy)
noncomputable abbrev kg:=Cal P w K mg base "name_of" 2 ["bead"] (spV K hW)
noncomputable abbrev js:=Cal P w K mg base "mirrored" 3 ["bead"] (spV K dQ)
noncomputable abbrev fq:=Cal P w K mg base "turned_beads" 4 ["beads"] (spV K cj)
noncomputable abbrev rN:=CalG P w K mg base "turn" 5 ["line","i","j"] (spG K cC "at" m5 kP)
noncomputable abbrev lZ:=CalG P w K mg base "change" 3 ["line","i","j","k","l"] (spG K cC "at" jq gM)
noncomputable abbrev jt:=Cal P w K mg base "_law_fits" 1 ["_law_deed","_law_many"] (spV K cw)
noncomputable abbrev ft:=Cal P w K mg base "_law_mirrored" 1 ["_law_bead"] (spV K cR)
noncomputable abbrev gT:=Cal P w K mg base "_law_turned" 2 ["_law_line_here","_law_i","_law_j"] (spV K dR)
noncomputable abbrev fY:=Cal P w K mg base "_law_changed" 1 ["_law_line_here","_law_i","_law_j","_law_k","_law_l"] (spV K dA)
noncomputable abbrev di:=Cal P w K mg base "_law_line_behind" 3 ["_law_line_here","_law_deed"] (spV K bA)
noncomputable abbrev ju:=Cal P w K mg base "_law_flow" 1 ["_law_script"] (spV K gi)
noncomputable abbrev bM:=Cal P w K mg base "_law_pick" 1 ["_law_flow_here","_law_many"] (g7 K au)
noncomputable abbrev fu:=Cal P w K mg base "_law_shuffled" 2 ["_law_flow_here","_law_things"] (g7 K cT)
noncomputable abbrev jv:=Cal P w K mg base "_law_line" 3 ["_law_flow_here","_law_names_here"] (g7 K gk)
noncomputable abbrev dB:=Cal P w K mg base "_law_letters" 2 ["_law_flow_here","_law_many"] (g7 K b4)
noncomputable abbrev jw:=Cal P w K mg base "_law_name" 3 ["_law_flow_here","_law_stem"] (g7 K gl)
noncomputable abbrev iz:=Cal P w K mg base "_law_names" 4 ["_law_flow_here","_law_many"] (g7 K eZ)
noncomputable abbrev dZ:=Cal P w K mg base "_law_good_deed" 2 ["_law_flow_here","_law_word","_law_many"] (g7 K cB)
noncomputable abbrev fv:=Cal P w K mg base "_law_any_deed" 3 ["_law_flow_here","_law_word","_law_many"] (g7 K cV)
noncomputable abbrev iA:=Cal P w K mg base "_law_alike" 4 ["_law_found","_law_due_here"] (spV K (cA 4))
noncomputable abbrev iB:=Cal P w K mg base "_law_asked" 6 ["_law_line_here","_law_deed"] (spV K bP)
noncomputable abbrev kh:=Cal P w K mg base "_law_due" 4 ["_law_line_here","_law_deed"] (spV K dF)
end
section
variable {P:Program}{w:World}{K:PySem.W.Frag}{mg:Str->Option Value}{base:Heap}
variable {cC cS cf c1 c2 c3:Addr}{id ii sa ow B:String}{mB:List Value}
theorem lc(M:Md mg):Bd' P w K mg base "is_turned" hX ["bead"] 0 ir:=fun hr=>⟨_,(ar (aH (im PySem.F.plainAttrs_str PySem.F.slot_str_startswith PySem.F.type_str_startswith jC (pv 0) (aj bB ag)))),
  (aI (qu o7 (aa 0) (ab (bE _) ai)))⟩
theorem nq(M:Md mg)(c0:fm P w K mg base):Bd' P w K mg base "name_of" kQ ["bead"] 1 j9:=fun hr=>⟨_,(ar (aH (lj (d6 (aD c0 hr rfl (aj (pv 0) ag))) (be (mM (K:=K) rfl) (pv 0) (aP ae) cc) (pv 0)))),
  (aI (ul (ip (cx (ab (aa 0) ai))) (bg kJ (aa 0) (aF (af _)) cQ) (aa 0)))⟩
theorem ma(M:Md mg)(c0:fm P w K mg base)(c1:kg P w K mg base):Bd' P w K mg base "mirrored" hZ ["bead"] 2 jk:=fun hr=>⟨_,(ar (aH (lj (d6 (aD c0 hr rfl (aj (pv 0) ag))) (aD c1 hr rfl (aj (pv 0) ag)) (az (aG (K:=K) rfl) bB (pv 0))))),
  (aI (ul (ip (cx (ab (aa 0) ai))) (cx (ab (aa 0) ai)) (ah ro_addA (bE _) (aa 0))))⟩
theorem iI(M:Md mg)(c2:js P w K mg base):Bd' P w K mg base "turned_beads" cK ["beads"] 3 eU:=fun hr=>⟨_,(ar (aH (cr (de (K:=K) rfl rfl) rfl M.n_tuple b9 (aj (fB (gZ (osc:=(ak cK)) (ON:=["beads"]) (N:=["bead"]) (k:=1) (caps:=[]) (by decide +kernel) rfl rfl) rfl (lN (K:=K) rfl rfl rfl M.n_reversed (pv 0)) (fun _ _ _ _=>(gz 0 (by show(["bead"]:List Str).Nodup;decide +kernel))) (fun _ _ _ _=>fA) (fun _ _ _ _=>(aD c2 hr rfl (aj (pv 0) ag)))) ag)))),
  (aI (bD fF (ab (fD (vV (aa 0)) (cG 0) (by decide) g6 (cx (ab (aa 0) ai))) ai)))⟩
theorem t7(Y:Xs K mg "NoDeed" "at" "StrandError" "BadText" "Lacks" "NotLet" cC cS cf c1 c2 c3 id ii sa ow B mB)(I:CalI P w K mg base cC cf "at" 1)(M:Md mg)(c3:fq P w K mg base):BdG P w K mg base "turn" "at" cC rp ["line","i","j"] 4 mZ (bx (fOp bH (fOp bH (fSl bW (ac 0) oNo (aZ (ac 1))) (cX cj (ad (fSl bW (ac 0) (aZ (ac 1)) (aZ (ac 2))) av))) (fSl bW (ac 0) (aZ (ac 2)) oNo))):=fun hr=>⟨_,_,am (bU (kj (qK ae (cL fQ (pv 1) (cL eN (pv 2) (j7 fQ (aL (cb (K:=K) rfl) rfl M.n_len PySem.boot_len (aj (pv 0) ag))))))) (ar (uM Y I hr rfl)) bp) (ar (aH (az (bR (K:=K) rfl) (az (bR (K:=K) rfl) (be (bz (K:=K) rfl) (pv 0) cc (aP (pv 1))) (aD c3 hr rfl (aj (be (bz (K:=K) rfl) (pv 0) (aP (pv 1)) (aP (pv 2))) ag))) (be (bz (K:=K) rfl) (pv 0) (aP (pv 2)) cc)))),(iN (bb (kN (af _) (bN fU (aa 1) (bN eO (aa 2) (gL fU (bD eP (ab (aa 0) ai)))))))),(aI (ah bS (ah bS (bg bo (aa 0) cQ (aF (aa 1))) (dM (ab (bg bo (aa 0) (aF (aa 1)) (aF (aa 2))) ai))) (bg bo (aa 0) (aF (aa 2)) cQ)))⟩
theorem pB(Y:Xs K mg "NoDeed" "at" "StrandError" "BadText" "Lacks" "NotLet" cC cS cf c1 c2 c3 id ii sa ow B mB)(I:CalI P w K mg base cC cf "at" 1)(M:Md mg):BdG P w K mg base "change" "at" cC kR ["line","i","j","k","l"] 2 jp (bx (fOp bH (fOp bH (fOp bH (fOp bH (fSl bW (ac 0) oNo (aZ (ac 1))) (fSl bW (ac 0) (aZ (ac 3)) (aZ (ac 4)))) (fSl bW (ac 0) (aZ (ac 2)) (aZ (ac 3)))) (fSl bW (ac 0) (aZ (ac 1)) (aZ (ac 2)))) (fSl bW (ac 0) (aZ (ac 4)) oNo))):=fun hr=>⟨_,_,am (bU (kj (qK ae (cL fQ (pv 1) (cL eN (pv 2) (cL fQ (pv 3) (cL eN (pv 4) (j7 fQ (aL (cb (K:=K) rfl) rfl M.n_len PySem.boot_len (aj (pv 0) ag))))))))) (ar (uM Y I hr rfl)) bp) (ar (aH (az (bR (K:=K) rfl) (az (bR (K:=K) rfl) (az (bR (K:=K) rfl) (az (bR (K:=K) rfl) (be (bz (K:=K) rfl) (pv 0) cc (aP (pv 1))) (be (bz (K:=K) rfl) (pv 0) (aP (pv 3)) (aP (pv 4)))) (be (bz (K:=K) rfl) (pv 0) (aP (pv 2)) (aP (pv 3)))) (be (bz (K:=K) rfl) (pv 0) (aP (pv 1)) (aP (pv 2)))) (be (bz (K:=K) rfl) (pv 0) (aP (pv 4)) cc)))),(iN (bb (kN (af _) (bN fU (aa 1) (bN eO (aa 2) (bN fU (aa 3) (bN eO (aa 4) (gL fU (bD eP (ab (aa 0) ai)))))))))),(aI (ah bS (ah bS (ah bS (ah bS (bg bo (aa 0) cQ (aF (aa 1))) (bg bo (aa 0) (aF (aa 3)) (aF (aa 4)))) (bg bo (aa 0) (aF (aa 2)) (aF (aa 3)))) (bg bo (aa 0) (aF (aa 1)) (aF (aa 2)))) (bg bo (aa 0) (aF (aa 4)) cQ)))⟩
theorem md(M:Md mg):Bd' P w K mg base "_law_fits" m6 ["_law_deed","_law_many"] 0 jl:=fun hr=>⟨_,(am (bU (bj (b7 (K:=K) rfl hr.units) (aM (ax (K:=K) rfl) (pv 0) ae (fun _ _=>rfl)) bB (bm _)) (ar (aH (qJ ae (dE fQ (aM (ax (K:=K) rfl) (pv 0) ae (fun _ _=>rfl)) (dE eN (aM (ax (K:=K) rfl) (pv 0) ae (fun _ _=>rfl)) (lR fQ (pv 1))))))) bp)
   (ar (aH (qJ ae (dE fQ (aM (ax (K:=K) rfl) (pv 0) ae (fun _ _=>rfl)) (dE eN (aM (ax (K:=K) rfl) (pv 0) ae (fun _ _=>rfl)) (dE fQ (aM (ax (K:=K) rfl) (pv 0) ae (fun _ _=>rfl)) (dE eN (aM (ax (K:=K) rfl) (pv 0) ae (fun _ _=>rfl)) (lR fQ (pv 1)))))))))),
  (aA (bX (bb (ah b8 (ah aN (aa 0) (af _)) (bE _))) (aI (kN (af _) (bN fU (ah aN (aa 0) (af _)) (bN eO (ah aN (aa 0) (af _)) (gL fU (aa 1)))))) bq)
   (aI (kN (af _) (bN fU (ah aN (aa 0) (af _)) (bN eO (ah aN (aa 0) (af _)) (bN fU (ah aN (aa 0) (af _)) (bN eO (ah aN (aa 0) (af _)) (gL fU (aa 1)))))))))⟩
theorem iJ(M:Md mg):Bd' P w K mg base "_law_mirrored" gm ["_law_bead"] 0 eV:=fun hr=>⟨_,(am (bU (bj (b7 (K:=K) rfl hr.units) (aM (ax (K:=K) rfl) (pv 0) ae (fun _ _=>rfl)) bB (bm _)) (ar (aH (be (mM (K:=K) rfl) (pv 0) (aP ae) cc))) bp)
   (ar (aH (az (aG (K:=K) rfl) bB (pv 0))))),
  (aA (bX (bb (ah b8 (ah aN (aa 0) (af _)) (bE _))) (aI (bg kJ (aa 0) (aF (af _)) cQ)) bq)
   (aI (ah ro_addA (bE _) (aa 0))))⟩
theorem jH(M:Md mg)(c7:ft P w K mg base):Bd' P w K mg base "_law_turned" gP ["_law_line_here","_law_i","_law_j"] 1 gO:=fun hr=>⟨_,(ar (aH (az (bR (K:=K) rfl) (az (bR (K:=K) rfl) (be (bz (K:=K) rfl) (pv 0) cc (aP (pv 1))) (cr (de (K:=K) rfl rfl) rfl M.n_tuple b9 (aj (fB (gZ (osc:=(ak gP)) (ON:=["_law_line_here","_law_i","_law_j"]) (N:=["_law_bead"]) (k:=1) (caps:=[]) (by decide +kernel) rfl rfl) rfl (mO (K:=K) rfl (sS (K:=K) rfl (be (bz (K:=K) rfl) (pv 0) (aP (pv 1)) (aP (pv 2))))) (fun _ _ _ _=>(gz 0 (by show(["_law_bead"]:List Str).Nodup;decide +kernel))) (fun _ _ _ _=>fA) (fun _ _ _ _=>(aD c7 hr rfl (aj (pv 0) ag)))) ag))) (be (bz (K:=K) rfl) (pv 0) (aP (pv 2)) cc)))),
  (aI (ah bS (ah bS (bg bo (aa 0) cQ (aF (aa 1))) (bD fF (ab (fD (mP (vW (bg bo (aa 0) (aF (aa 1)) (aF (aa 2))))) (cG 0) (by decide) g6 (cx (ab (aa 0) ai))) ai))) (bg bo (aa 0) (aF (aa 2)) cQ)))⟩
theorem jx(M:Md mg):Bd' P w K mg base "_law_changed" ia ["_law_line_here","_law_i","_law_j","_law_k","_law_l","_law_ahead"] 0 fW:=fun hr=>⟨_,(am (bt 5 sc_sLchanged.nd (az (bR (K:=K) rfl) (be (bz (K:=K) rfl) (pv 0) cc (aP (pv 1))) (be (bz (K:=K) rfl) (pv 0) (aP (pv 3)) (aP (pv 4)))))
   (ar (aH (az (bR (K:=K) rfl) (az (bR (K:=K) rfl) (az (bR (K:=K) rfl) (pv 5) (be (bz (K:=K) rfl) (pv 0) (aP (pv 2)) (aP (pv 3)))) (be (bz (K:=K) rfl) (pv 0) (aP (pv 1)) (aP (pv 2)))) (be (bz (K:=K) rfl) (pv 0) (aP (pv 4)) cc))))),
  (aA (aV (ah bS (bg bo (aa 0) cQ (aF (aa 1))) (bg bo (aa 0) (aF (aa 3)) (aF (aa 4)))))
   (aI (ah bS (ah bS (ah bS (aa 5) (bg bo (aa 0) (aF (aa 2)) (aF (aa 3)))) (bg bo (aa 0) (aF (aa 1)) (aF (aa 2)))) (bg bo (aa 0) (aF (aa 4)) cQ))))⟩
theorem gr(M:Md mg)(c8:gT P w K mg base)(c9:fY P w K mg base):Bd' P w K mg base "_law_line_behind" dS ["_law_line_here","_law_deed"] 2 dg:=fun hr=>⟨_,(am (bU (bj (b7 (K:=K) rfl hr.units) (aM (ax (K:=K) rfl) (pv 1) ae (fun _ _=>rfl)) bB (bm _)) (ar (aH (aD c8 hr rfl (aj (pv 0) (aj (aM (ax (K:=K) rfl) (pv 1) ae (fun _ _=>rfl)) (aj (aM (ax (K:=K) rfl) (pv 1) ae (fun _ _=>rfl)) ag)))))) bp)
   (ar (aH (aD c9 hr rfl (aj (pv 0) (aj (aM (ax (K:=K) rfl) (pv 1) ae (fun _ _=>rfl)) (aj (aM (ax (K:=K) rfl) (pv 1) ae (fun _ _=>rfl)) (aj (aM (ax (K:=K) rfl) (pv 1) ae (fun _ _=>rfl)) (aj (aM (ax (K:=K) rfl) (pv 1) ae (fun _ _=>rfl)) ag))))))))),
  (aA (bX (bb (ah b8 (ah aN (aa 1) (af _)) (bE _))) (aI (dM (ab (aa 0) (ab (ah aN (aa 1) (af _)) (ab (ah aN (aa 1) (af _)) ai))))) bq)
   (aI (dM (ab (aa 0) (ab (ah aN (aa 1) (af _)) (ab (ah aN (aa 1) (af _)) (ab (ah aN (aa 1) (af _)) (ab (ah aN (aa 1) (af _)) ai))))))))⟩
theorem me(M:Md mg):Bd' P w K mg base "_law_flow" m7 ["_law_script"] 0 jm:=fun hr=>⟨_,(ar (aH (oj (fV (cr (gd (K:=K) rfl rfl) rfl M.n_list cO (aj (pv 0) ag)) (fV ae (fV ae (fV ae (fV ae oi rfl) rfl) rfl) rfl) rfl)))),
  (aI (cP (ab (bD jc (ab (aa 0) ai)) (ab (af _) (ab (af _) (ab (af _) (ab (af _) ai)))))))⟩
theorem mf(M:Md mg):Bd' P w K mg base "_law_pick" m8 ["_law_flow_here","_law_many","_law_cell","_law_digit"] 0 gj:=fun hr=>⟨_,(am (bU (PW.pt (uX (bj (b7 (K:=K) rfl hr.units) (aM (ax (K:=K) rfl) (pv 0) ae (fun _ _=>rfl)) ae (bm _)) (rR (bj eN (aM (ax (K:=K) rfl) (pv 0) ae (fun _ _=>rfl)) (aL (cb (K:=K) rfl) rfl M.n_len PySem.boot_len (aj (aM (ax (K:=K) rfl) (pv 0) ae (fun _ _=>rfl)) ag)) (bm _))))) (am (bt 2 sc_sLpick.nd (aM (ax (K:=K) rfl) (aM (ax (K:=K) rfl) (pv 0) ae (fun _ _=>rfl)) (aM (ax (K:=K) rfl) (pv 0) ae (fun _ _=>rfl)) (fun _ _=>rfl)))
   (am (dG (az (aG (K:=K) rfl) (aM (ax (K:=K) rfl) (pv 0) ae (fun _ _=>rfl)) ae) (f8 (pv 0) ae set_list))
   (ar (bU (bj wD (pv 2) (az pL ae ae) (bm _)) (ar (dG (pv 2) (f8 (pv 0) ae set_list))) (ar (dG (az d7 (az (aG (K:=K) rfl) (az (aG (K:=K) rfl) (az cZ (aM (ax (K:=K) rfl) (pv 0) ae (fun _ _=>rfl)) ae) (az d7 (pv 2) ae)) ae) ae) (f8 (pv 0) ae set_list))))))) bp)
   (am (bU (bj wC (aM (ax (K:=K) rfl) (pv 0) ae (fun _ _=>rfl)) ae (bm _)) (am (bt 3 sc_sLpick.nd (az d7 (aM (ax (K:=K) rfl) (pv 0) ae (fun _ _=>rfl)) (pv 1)))
   (am (dG (az iM (aM (ax (K:=K) rfl) (pv 0) ae (fun _ _=>rfl)) (pv 1)) (f8 (pv 0) ae set_list))
   (ar (aH (pv 3))))) bp)
   (am (dG (az (aG (K:=K) rfl) (aM (ax (K:=K) rfl) (pv 0) ae (fun _ _=>rfl)) ae) (f8 (pv 0) ae set_list))
   (am (dG (az d7 (az (aG (K:=K) rfl) (az (aG (K:=K) rfl) (az cZ (aM (ax (K:=K) rfl) (pv 0) ae (fun _ _=>rfl)) ae) ae) (aM (ax (K:=K) rfl) (pv 0) ae (fun _ _=>rfl))) ae) (f8 (pv 0) ae set_list))
   (ar (aH (az d7 (az iM (az d7 (az cZ (az (aG (K:=K) rfl) (az d7 (aM (ax (K:=K) rfl) (pv 0) ae (fun _ _=>rfl)) ae) ae) (az (aG (K:=K) rfl) (az iM (aM (ax (K:=K) rfl) (pv 0) ae (fun _ _=>rfl)) ae) ae)) ae) ae) (pv 1)))))))),
  (aA (bX (sv (bb (ah b8 (ah aN (aa 0) (af _)) (af _))) (bb (ah eO (ah aN (aa 0) (af _)) (bD eP (ab (ah aN (aa 0) (af _)) ai))))) (aA (aV (ah aN (ah aN (aa 0) (af _)) (ah aN (aa 0) (af _))))
   (aA (gb cu (ah ro_addA (ah aN (aa 0) (af _)) (af _)) (af _))
   (bX (bb (ah wP (aa 2) (ah ql (af _) (af _)))) (gb cu (aa 2) (af _)) (gb cu (ah eE (ah ro_addA (ah ro_addA (ah db (ah aN (aa 0) (af _)) (af _)) (ah eE (aa 2) (af _))) (af _)) (af _)) (af _))))) bq)
   (aA (bX (bb (ah wO (ah aN (aa 0) (af _)) (af _))) (aA (aV (ah eE (ah aN (aa 0) (af _)) (aa 1)))
   (aA (gb cu (ah kE (ah aN (aa 0) (af _)) (aa 1)) (af _))
   (aI (aa 3)))) bq)
   (aA (gb cu (ah ro_addA (ah aN (aa 0) (af _)) (af _)) (af _))
   (aA (gb cu (ah eE (ah ro_addA (ah ro_addA (ah db (ah aN (aa 0) (af _)) (af _)) (af _)) (ah aN (aa 0) (af _))) (af _)) (af _))
   (aI (ah eE (ah kE (ah eE (ah db (ah ro_addA (ah eE (ah aN (aa 0) (af _)) (af _)) (af _)) (ah ro_addA (ah kE (ah aN (aa 0) (af _)) (af _)) (af _))) (af _)) (af _)) (aa 1)))))))⟩
theorem iK(M:Md mg)(c12:bM P w K mg base):Bd' P w K mg base "_law_shuffled" gn ["_law_flow_here","_law_things","_law_left","_law_told"] 1 eW:=fun hr=>⟨_,(am (bt 2 sc_sLshuffled.nd (cr (gd (K:=K) rfl rfl) rfl M.n_list cO (aj (pv 1) ag)))
   (am (bt 3 sc_sLshuffled.nd (dj ag))
   (am (ll PassesOwn.never (bj (kH (K:=K) rfl hr.units) (pv 2) (dj ag) (bm _)) (ar (gw (im PySem.F.plainAttrs_list PySem.F.slot_list_append PySem.F.type_list_append gX (pv 3) (aj (im PySem.F.plainAttrs_list PySem.F.slot_list_pop PySem.F.type_list_pop pV (pv 2) (aj (aD c12 hr rfl (aj (pv 0) (aj (aL (cb (K:=K) rfl) rfl M.n_len PySem.boot_len (aj (pv 2) ag)) ag))) ag)) ag)))))
   (ar (aH (pv 3)))))),
  (aA (aV (bD jc (ab (aa 1) ai)))
   (aA (aV (cP ai))
   (aA (lD 300 (bb (ah kI (aa 2) (cP ai))) (iO (qd hJ (ab (qd qw (ab (bn (ab (bD eP (ab (aa 2) ai)) ai)) ai)) ai))))
   (aI (aa 3)))))⟩
theorem mh(M:Md mg)(c12:bM P w K mg base)(c13:fu P w K mg base):Bd' P w K mg base "_law_line" kS ["_law_flow_here","_law_names_here"] 2 jn:=fun hr=>⟨_,(ar (aH (cr (de (K:=K) rfl rfl) rfl M.n_tuple b9 (aj (fB (gZ (osc:=(ak kS)) (ON:=["_law_flow_here","_law_names_here"]) (N:=["_law_name_here","_law_flow_here"]) (k:=1) (caps:=[0]) (by decide +kernel) rfl rfl) rfl (mO (K:=K) rfl (aD c13 hr rfl (aj (pv 0) (aj (pv 1) ag)))) (fun _ _ _ _=>(gz 0 (by show(["_law_name_here","_law_flow_here"]:List Str).Nodup;decide +kernel))) (fun _ _ _ _=>fA) (fun _ _ _ _=>(az (aG (K:=K) rfl) (az cZ bB (aD c12 hr rfl (aj (pv 1) (aj ae ag)))) (pv 0)))) ag)))),
  (aI (bD fF (ab (fD (mP (bn (ab (aa 1) ai))) (cG 0) (by decide) g6 (ah ro_addA (ah db (bE _) (bn (ab (af _) ai))) (aa 0))) ai)))⟩
theorem jy(M:Md mg)(c12:bM P w K mg base):Bd' P w K mg base "_law_letters" fI ["_law_flow_here","_law_many"] 1 fX:=fun hr=>⟨_,(ar (aH (im PySem.F.plainAttrs_str PySem.F.slot_str_join PySem.F.type_str_join si bB (aj (fB (gZ (osc:=(ak fI)) (ON:=["_law_flow_here","_law_many"]) (N:=["_law_k","_law_flow_here"]) (k:=1) (caps:=[0]) (by decide +kernel) rfl rfl) rfl (dC rfl M.n_range (aj (pv 1) ag)) (fun _ _ _ _=>(gz 0 (by show(["_law_k","_law_flow_here"]:List Str).Nodup;decide +kernel))) (fun _ _ _ _=>fA) (fun _ _ _ _=>(aM (ax (K:=K) rfl) bB (aD c12 hr rfl (aj (pv 1) (aj ae ag))) (fun _ _=>rfl)))) ag)))),
  (aI (qu sJ (bE _) (ab (fD (gE (ab (aa 1) ai)) (cG 0) (by decide) g6 (ah aN (bE _) (bn (ab (af _) ai)))) ai)))⟩
theorem mi(M:Md mg)(c12:bM P w K mg base)(c15:dB P w K mg base):Bd' P w K mg base "_law_name" m9 ["_law_flow_here","_law_stem","_law_words"] 2 jo:=fun hr=>⟨_,(am (bU (bj (kH (K:=K) rfl hr.units) (pv 1) bB (bm _)) (ar (aH (az (aG (K:=K) rfl) (pv 1) (aD c15 hr rfl (aj (pv 0) (aj (az (aG (K:=K) rfl) ae (aD c12 hr rfl (aj (pv 0) (aj ae ag)))) ag)))))) bp)
   (@am _ _ _ _ _ (bU (bj (b7 (K:=K) rfl hr.units) (aD c12 hr rfl (aj (pv 0) (aj ae ag))) ae (bm _)) (@am _ _ _ _ _ (@bt _ 2 _ _ _ _ _ sc_sLname.nd (@dj _ _ _ _ (@kz _ _ _ (by rfl))) (by rfl) (by first|exact Or.inl rfl|exact Or.inr rfl) (by first|exact .inl rfl|exact .inr rfl) (by rfl) (by rfl) (by rfl))
   (am (bt 2 sc_sLname.nd (az (aG (K:=K) rfl) (pv 2) (@dj _ _ _ _ (@kz _ _ _ (by rfl)))))
   (ar (aH (aM (ax (K:=K) rfl) (pv 2) (aD c12 hr rfl (aj (pv 0) (aj ae ag))) (fun _ _=>rfl)))))) bp)
   (ar (aH (aD c15 hr rfl (aj (pv 0) (aj (az (aG (K:=K) rfl) ae (aD c12 hr rfl (aj (pv 0) (aj ae ag)))) ag))))))),
  (aA (bX (bb (ah kI (aa 1) (bE _))) (aI (ah ro_addA (aa 1) (bn (ab (ah ro_addA (af _) (bn (ab (af _) ai))) ai)))) bq)
   (aA (bX (bb (ah b8 (bn (ab (af _) ai)) (af _))) (aA (aV (cP nW))
   (aA (aV (ah ro_addA (aa 2) (cP nW)))
   (aI (ah aN (aa 2) (bn (ab (af _) ai)))))) bq)
   (aI (bn (ab (ah ro_addA (af _) (bn (ab (af _) ai))) ai)))))⟩
theorem le(M:Md mg)(c12:bM P w K mg base)(c15:dB P w K mg base)(c16:jw P w K mg base):Bd' P w K mg base "_law_names" kT ["_law_flow_here","_law_many","_law_stem","_law_names_here","_law_k","_law_name_here","_law_spare"] 3 eY:=fun hr=>⟨_,(am (bt 2 sc_sLnames.nd bB)
   (am (bU (bj (b7 (K:=K) rfl hr.units) (aD c12 hr rfl (aj (pv 0) (aj ae ag))) ae (bm _)) (ar (bt 2 sc_sLnames.nd (aD c15 hr rfl (aj (pv 0) (aj (az (aG (K:=K) rfl) ae (aD c12 hr rfl (aj (pv 0) (aj ae ag)))) ag))))) bp)
   (am (bt 3 sc_sLnames.nd (dj ag))
   (am (mo PassesOwn.never rfl (dC rfl M.n_range (aj (pv 1) ag)) (gz 4 sc_sLnames.nd) (am (bt 5 sc_sLnames.nd (aD c16 hr rfl (aj (pv 0) (aj (pv 2) ag))))
   (am (bt 6 sc_sLnames.nd ae)
   (am (ll PassesOwn.never (bj (vM (K:=K) rfl) (pv 5) (pv 3) (by with_unfolding_all rfl)) (am (bt 5 sc_sLnames.nd (az cZ (aM (ax (K:=K) rfl) bB (az d7 (pv 6) ae) (fun _ _=>rfl)) (az (aG (K:=K) rfl) ae (az iM (pv 6) ae))))
   (ar (bt 6 sc_sLnames.nd (az (aG (K:=K) rfl) (pv 6) ae)))))
   (ar (gw (im PySem.F.plainAttrs_list PySem.F.slot_list_append PySem.F.type_list_append gX (pv 3) (aj (pv 5) ag))))))))
   (ar (aH (pv 3))))))),
  (aA (aV (bE _))
   (aA (bX (bb (ah b8 (bn (ab (af _) ai)) (af _))) (aV (bn (ab (ah ro_addA (af _) (bn (ab (af _) ai))) ai))) bq)
   (aA (aV (cP ai))
   (aA (mG (gE (ab (aa 1) ai)) (cG 4) (aA (aV (bn (ab (aa 2) ai)))
   (aA (aV (af _))
   (aA (lD 200 (bb (ah vN (aa 5) (aa 3))) (aA (aV (ah db (ah aN (bE _) (ah eE (aa 6) (af _))) (ah ro_addA (af _) (ah kE (aa 6) (af _)))))
   (aV (ah ro_addA (aa 6) (af _)))))
   (iO (qd hJ (ab (aa 5) ai)))))))
   (aI (aa 3))))))⟩
theorem ik(M:Md mg)(c12:bM P w K mg base):Bd' P w K mg base "_law_good_deed" gp ["_law_flow_here","_law_word","_law_many","_law_i","_law_j","_law_k","_law_l"] 1 dX:=fun hr=>⟨_,(am (bU (bj (b7 (K:=K) rfl hr.units) (pv 1) bB (bm _)) (am (bt 3 sc_sLgooddeed.nd (aD c12 hr rfl (aj (pv 0) (aj (pv 2) ag))))
   (ar (aH (gW (aj bB (aj (pv 3) (aj (az (aG (K:=K) rfl) (az (aG (K:=K) rfl) (pv 3) ae) (aD c12 hr rfl (aj (pv 0) (aj (az dI (pv 2) (pv 3)) ag)))) ag))))))) bp)
   (am (bt 3 sc_sLgooddeed.nd (aD c12 hr rfl (aj (pv 0) (aj (az dI (pv 2) ae) ag))))
   (am (bt 4 sc_sLgooddeed.nd (az (aG (K:=K) rfl) (az (aG (K:=K) rfl) (pv 3) ae) (aD c12 hr rfl (aj (pv 0) (aj (az dI (az dI (pv 2) ae) (pv 3)) ag)))))
   (am (bt 5 sc_sLgooddeed.nd (az (aG (K:=K) rfl) (pv 4) (aD c12 hr rfl (aj (pv 0) (aj (az dI (pv 2) (pv 4)) ag)))))
   (am (bt 6 sc_sLgooddeed.nd (az (aG (K:=K) rfl) (az (aG (K:=K) rfl) (pv 5) ae) (aD c12 hr rfl (aj (pv 0) (aj (az dI (pv 2) (pv 5)) ag)))))
   (ar (aH (gW (aj bB (aj (pv 3) (aj (pv 4) (aj (pv 5) (aj (pv 6) ag))))))))))))),
  (aA (bX (bb (ah b8 (aa 1) (bE _))) (aA (aV (bn (ab (aa 2) ai)))
   (aI (i7 (ab (bE _) (ab (aa 3) (ab (ah ro_addA (ah ro_addA (aa 3) (af _)) (bn (ab (ah dN (aa 2) (aa 3)) ai))) ai)))))) bq)
   (aA (aV (bn (ab (ah dN (aa 2) (af _)) ai)))
   (aA (aV (ah ro_addA (ah ro_addA (aa 3) (af _)) (bn (ab (ah dN (ah dN (aa 2) (af _)) (aa 3)) ai))))
   (aA (aV (ah ro_addA (aa 4) (bn (ab (ah dN (aa 2) (aa 4)) ai))))
   (aA (aV (ah ro_addA (ah ro_addA (aa 5) (af _)) (bn (ab (ah dN (aa 2) (aa 5)) ai))))
   (aI (i7 (ab (bE _) (ab (aa 3) (ab (aa 4) (ab (aa 5) (ab (aa 6) ai))))))))))))⟩
theorem iL(M:Md mg)(c12:bM P w K mg base)(c18:dZ P w K mg base):Bd' P w K mg base "_law_any_deed" fJ ["_law_flow_here","_law_word","_law_many","_law_room","_law_deed","_law_at","_law_great"] 2 cU:=fun hr=>⟨_,(am (bt 3 sc_sLanydeed.nd (az (aG (K:=K) rfl) (im PySem.F.plainAttrs_list PySem.F.slot_list_index PySem.F.type_list_index (qQ (K:=K) rfl) (dj (aj bB (aj bB ag))) (aj (pv 1) ag)) ae))
   (am (bt 4 sc_sLanydeed.nd (dj (aj (pv 1) ag)))
   (am (bU (PW.pt (pD (bj eN (pv 2) (pv 3) (bm _)) (mj (bj (b7 (K:=K) rfl hr.units) (aD c12 hr rfl (aj (pv 0) (aj ae ag))) ae (bm _))))) (ar (gw (im PySem.F.plainAttrs_list PySem.F.slot_list_extend PySem.F.type_list_extend (mN (K:=K) rfl rfl) (pv 4) (aj (fB (gZ (osc:=(ak fJ)) (ON:=["_law_flow_here","_law_word","_law_many","_law_room","_law_deed","_law_at","_law_great"]) (N:=["_law_k","_law_flow_here","_law_many"]) (k:=1) (caps:=[0,2]) (by decide +kernel) rfl rfl) rfl (dC rfl M.n_range (aj (az cZ ae (pv 3)) ag)) (fun _ _ _ _=>(gz 0 (by show(["_law_k","_law_flow_here","_law_many"]:List Str).Nodup;decide +kernel))) (fun _ _ _ _=>fA) (fun _ _ _ _=>(az dI (aD c12 hr rfl (aj (pv 1) (aj (az (aG (K:=K) rfl) (pv 2) ae) ag))) ae))) ag)))) (ar (bt 4 sc_sLanydeed.nd (cr (gd (K:=K) rfl rfl) rfl M.n_list cO (aj (aD c18 hr rfl (aj (pv 0) (aj (pv 1) (aj (pv 2) ag)))) ag)))))
   (am (bU (bj (b7 (K:=K) rfl hr.units) (aD c12 hr rfl (aj (pv 0) (aj ae ag))) ae (bm _)) (am (bt 5 sc_sLanydeed.nd (az (aG (K:=K) rfl) ae (aD c12 hr rfl (aj (pv 0) (aj (az cZ ae (pv 3)) ag)))))
   (am (bt 6 sc_sLanydeed.nd (az cZ (az (aG (K:=K) rfl) (aD c12 hr rfl (aj (pv 0) (aj ae ag))) ae) (az pL ae ae)))
   (ar (dG (wq (v4 (ax (K:=K) rfl) (tm (fV (az dI (aM (ax (K:=K) rfl) (pv 4) (pv 5) (fun _ _=>rfl)) ae) (fV (az (aG (K:=K) rfl) (aM (ax (K:=K) rfl) (pv 4) (pv 5) (fun _ _=>rfl)) ae) (fV (az dI (aD c12 hr rfl (aj (pv 0) (aj (az (aG (K:=K) rfl) (pv 2) ae) ag))) ae) (fV (pv 6) (fV (wz u2 (pv 6)) oi rfl) rfl) rfl) rfl) rfl)) (aD c12 hr rfl (aj (pv 0) (aj ae ag))) (fun _ _=>rfl))) (f8 (pv 4) (pv 5) set_list))))) bp)
   (ar (aH (cr (de (K:=K) rfl rfl) rfl M.n_tuple b9 (aj (pv 4) ag)))))))),
  (aA (aV (ah ro_addA (qu qR (cP (ab (bE _) (ab (bE _) ai))) (ab (aa 1) ai)) (af _)))
   (aA (aV (cP (ab (aa 1) ai)))
   (aA (bX (mE (bb (ah eO (aa 2) (aa 3))) (bb (ah b8 (bn (ab (af _) ai)) (af _)))) (iO (qd o9 (ab (fD (gE (ab (ah db (af _) (aa 3)) ai)) (cG 0) (by decide) g6 (ah dN (bn (ab (ah ro_addA (aa 2) (af _)) ai)) (af _))) ai))) (aV (bD jc (ab (bn (ab (aa 1) (ab (aa 2) ai))) ai))))
   (aA (bX (bb (ah b8 (bn (ab (af _) ai)) (af _))) (aA (aV (ah ro_addA (af _) (bn (ab (ah db (af _) (aa 3)) ai))))
   (aA (aV (ah db (ah ro_addA (bn (ab (af _) ai)) (af _)) (ah ql (af _) (af _))))
   (gb cu (ah aN (cP (ab (ah dN (ah aN (aa 4) (aa 5)) (af _)) (ab (ah ro_addA (ah aN (aa 4) (aa 5)) (af _)) (ab (ah dN (bn (ab (ah ro_addA (aa 2) (af _)) ai)) (af _)) (ab (aa 6) (ab (wI vz (aa 6)) ai)))))) (bn (ab (af _) ai))) (aa 5)))) bq)
   (aI (bD fF (ab (aa 4) ai)))))))⟩
theorem lg{n:Nat}{gs:List D->Option Rz}(M:Md mg)(c20:Cal P w K mg base "_law_alike" n ["_law_found","_law_due_here"] (spV K gs)):Bd' P w K mg base "_law_alike" iS ["_law_found","_law_due_here"] n (iu gs):=fun hr=>⟨_,(am (bU (bj ms (pv 1) iW (bm _)) (ar (aH (fz ms (pv 0) iW (bm _)))) bp)
   (am (bU (PW.pt (pD (d6 (aL (aW (K:=K) rfl) rfl M.n_isinstance boot_isinstance (aj (pv 1) (aj (dW rfl M.n_bool dL) ag)))) (mj (d6 (aL (aW (K:=K) rfl) rfl M.n_isinstance boot_isinstance (aj (pv 0) (aj (dW rfl M.n_bool dL) ag))))))) (ar (aH (fZ (aL (aW (K:=K) rfl) rfl M.n_isinstance boot_isinstance (aj (pv 1) (aj (dW rfl M.n_bool dL) ag))) (fZ (aL (aW (K:=K) rfl) rfl M.n_isinstance boot_isinstance (aj (pv 0) (aj (dW rfl M.n_bool dL) ag))) (iY (fz (b7 (K:=K) rfl hr.units) (pv 0) (pv 1) (bm _))))))) bp)
   (am (bU (d6 (aL (aW (K:=K) rfl) rfl M.n_isinstance boot_isinstance (aj (pv 1) (aj (dW rfl M.n_int jU) ag)))) (ar (aH (fZ (aL (aW (K:=K) rfl) rfl M.n_isinstance boot_isinstance (aj (pv 0) (aj (dW rfl M.n_int jU) ag))) (iY (fz (b7 (K:=K) rfl hr.units) (pv 0) (pv 1) (bm _)))))) bp)
   (am (bU (d6 (aL (aW (K:=K) rfl) rfl M.n_isinstance boot_isinstance (aj (pv 1) (aj (dW rfl M.n_str jT) ag)))) (ar (aH (fZ (aL (aW (K:=K) rfl) rfl M.n_isinstance boot_isinstance (aj (pv 0) (aj (dW rfl M.n_str jT) ag))) (iY (fz (b7 (K:=K) rfl hr.units) (pv 0) (pv 1) (bm _)))))) bp)
   (am (bU (PW.pt (pD (bj (kH (K:=K) rfl hr.units) (aL (aW (K:=K) rfl) rfl M.n_isinstance boot_isinstance (aj (pv 1) (aj (dW rfl M.n_tuple b9) ag))) (aL (aW (K:=K) rfl) rfl M.n_isinstance boot_isinstance (aj (pv 0) (aj (dW rfl M.n_tuple b9) ag))) (bm _)) (mj (bj (kH (K:=K) rfl hr.units) (aL (aW (K:=K) rfl) rfl M.n_isinstance boot_isinstance (aj (pv 1) (aj (dW rfl M.n_list cO) ag))) (aL (aW (K:=K) rfl) rfl M.n_isinstance boot_isinstance (aj (pv 0) (aj (dW rfl M.n_list cO) ag))) (bm _))))) (ar (aH jI)) bp)
   (ar (aH (fZ (fz (b7 (K:=K) rfl hr.units) (aL (cb (K:=K) rfl) rfl M.n_len PySem.boot_len (aj (pv 0) ag)) (aL (cb (K:=K) rfl) rfl M.n_len PySem.boot_len (aj (pv 1) ag)) (bm _)) (iY (aL (pY rfl) rfl M.n_all boot_all (aj (fB (gZ (osc:=(ak iS)) (ON:=["_law_found","_law_due_here"]) (N:=["_law_k","_law_found","_law_due_here"]) (k:=1) (caps:=[0,1]) (by decide +kernel) rfl rfl) rfl (dC rfl M.n_range (aj (aL (cb (K:=K) rfl) rfl M.n_len PySem.boot_len (aj (pv 1) ag)) ag)) (fun _ _ _ _=>(gz 0 (by show(["_law_k","_law_found","_law_due_here"]:List Str).Nodup;decide +kernel))) (fun _ _ _ _=>fA) (fun _ _ _ _=>(aD c20 hr rfl (aj (aM (ax (K:=K) rfl) (pv 1) (pv 0) (fun _ _=>rfl)) (aj (aM (ax (K:=K) rfl) (pv 2) (pv 0) (fun _ _=>rfl)) ag)) (Xa _)))) ag))))))))))),
  (aA (bX (bb (ah qm (aa 1) kB)) (aI (ah qm (aa 0) kB)) bq)
   (aA (bX (mE (ip (bD bv (ab (aa 1) (ab (fL fun _ _=>.ty _) ai)))) (ip (bD bv (ab (aa 0) (ab (fL fun _ _=>.ty _) ai))))) (aI (gB (bD bv (ab (aa 1) (ab (fL fun _ _=>.ty _) ai))) (gB (bD bv (ab (aa 0) (ab (fL fun _ _=>.ty _) ai))) (ah b8 (aa 0) (aa 1))))) bq)
   (aA (bX (ip (bD bv (ab (aa 1) (ab (fL fun _ _=>.ty _) ai)))) (aI (gB (bD bv (ab (aa 0) (ab (fL fun _ _=>.ty _) ai))) (ah b8 (aa 0) (aa 1)))) bq)
   (aA (bX (ip (bD bv (ab (aa 1) (ab (fL fun _ _=>.ty _) ai)))) (aI (gB (bD bv (ab (aa 0) (ab (fL fun _ _=>.ty _) ai))) (ah b8 (aa 0) (aa 1)))) bq)
   (aA (bX (mE (bb (ah kI (bD bv (ab (aa 1) (ab (fL fun _ _=>.ty _) ai))) (bD bv (ab (aa 0) (ab (fL fun _ _=>.ty _) ai))))) (bb (ah kI (bD bv (ab (aa 1) (ab (fL fun _ _=>.ty _) ai))) (bD bv (ab (aa 0) (ab (fL fun _ _=>.ty _) ai)))))) (aI (jV _)) bq)
   (aI (gB (ah b8 (bD eP (ab (aa 0) ai)) (bD eP (ab (aa 1) ai))) (bD vK (ab (fD (gE (ab (bD eP (ab (aa 1) ai)) ai)) (cG 0) (by decide) g6 (cx (ab (ah aN (aa 1) (aa 0)) (ab (ah aN (aa 2) (aa 0)) ai)))) ai)))))))))⟩
theorem lh(Y:Xs K mg "NoDeed" "at" "StrandError" "BadText" "Lacks" "NotLet" cC cS cf c1 c2 c3 id ii sa ow B mB)(M:Md mg)(c4:rN P w K mg base cC)(c5:lZ P w K mg base cC):Bd' P w K mg base "_law_asked" kU ["_law_line_here","_law_deed","_law_found","_law_refused","e"] 5 iw:=fun hr=>⟨_,(am (bt 2 sc_sLasked.nd iW)
   (am (bt 3 sc_sLasked.nd jI)
   (am (v8 4 Y.xc Y.hbe rfl rfl (v7 (bj (b7 (K:=K) rfl hr.units) (aM (ax (K:=K) rfl) (pv 1) ae (fun _ _=>rfl)) bB (bm _)) (lS 2 c4 hr rfl (aj (pv 0) (aj (aM (ax (K:=K) rfl) (pv 1) ae (fun _ _=>rfl)) (aj (aM (ax (K:=K) rfl) (pv 1) ae (fun _ _=>rfl)) ag))) sc_sLasked.nd) (lS 2 c5 hr rfl (aj (pv 0) (aj (aM (ax (K:=K) rfl) (pv 1) ae (fun _ _=>rfl)) (aj (aM (ax (K:=K) rfl) (pv 1) ae (fun _ _=>rfl)) (aj (aM (ax (K:=K) rfl) (pv 1) ae (fun _ _=>rfl)) (aj (aM (ax (K:=K) rfl) (pv 1) ae (fun _ _=>rfl)) ag))))) sc_sLasked.nd)) rfl Y.mC sc_sLasked.nd (fun a=>xD 4 3 rfl rfl rfl Y sc_sLasked.nd M.n_isinstance (fun _=>pv 4) rfl rfl rfl rfl rfl rfl rfl (by decide)))
   (ar (aH (gW (aj (pv 3) (aj (pv 2) ag)))))))),
  (aA (aV kB)
   (aA (aV (jV _))
   (aA (wc (xC (bb (ah b8 (ah aN (aa 1) (af _)) (bE _))) (oq (ab (aa 0) (ab (ah aN (aa 1) (af _)) (ab (ah aN (aa 1) (af _)) ai)))) (oq (ab (aa 0) (ab (ah aN (aa 1) (af _)) (ab (ah aN (aa 1) (af _)) (ab (ah aN (aa 1) (af _)) (ab (ah aN (aa 1) (af _)) ai))))))) (tF Y.k1 Y.k2))
   (aI (i7 (ab (aa 3) (ab (aa 2) ai)))))))⟩
theorem nr(M:Md mg)(c6:jt P w K mg base)(c10:di P w K mg base):Bd' P w K mg base "_law_due" rq ["_law_line_here","_law_deed"] 3 kc:=fun hr=>⟨_,(am (bU (kj (d6 (aD c6 hr rfl (aj (pv 1) (aj (aL (cb (K:=K) rfl) rfl M.n_len PySem.boot_len (aj (pv 0) ag)) ag))))) (ar (aH (gW (aj jI (aj iW ag))))) bp)
   (ar (aH (gW (aj jI (aj (aD c10 hr rfl (aj (pv 0) (aj (pv 1) ag))) ag)))))),
  (aA (bX (iN (ip (cx (ab (aa 1) (ab (bD eP (ab (aa 0) ai)) ai))))) (aI (i7 (ab (jV _) (ab kB ai)))) bq)
   (aI (i7 (ab (jV _) (ab (dM (ab (aa 0) (ab (aa 1) ai))) ai)))))⟩
theorem wr(M:Md mg)(c11:ju P w K mg base)(c12:bM P w K mg base)(c14:jv P w K mg base)(c17:iz P w K mg base)(c19:fv P w K mg base)(c20:iA P w K mg base)(c21:iB P w K mg base)(c22:kh P w K mg base):Bd' P w K mg base "law" wg ["_law_script","_law_flow_here","_law_many","_law_line_here","_law_some","_law_k","_law_deed"] 6 rn:=fun hr=>⟨_,(am (bt 1 sc_slaw.nd (aD c11 hr rfl (aj (pv 0) ag)))
   (am (bt 2 sc_slaw.nd (aD c12 hr rfl (aj (pv 1) (aj ae ag))))
   (am (bU (bj (b7 (K:=K) rfl hr.units) (aD c12 hr rfl (aj (pv 1) (aj ae ag))) ae (bm _)) (ar (bt 2 sc_slaw.nd (aD c12 hr rfl (aj (pv 1) (aj ae ag))))) bp)
   (am (bt 3 sc_slaw.nd (aD c14 hr rfl (aj (pv 1) (aj (aD c17 hr rfl (aj (pv 1) (aj (pv 2) ag))) ag))))
   (am (bt 4 sc_slaw.nd (dj ag))
   (am (mo PassesOwn.never rfl (dC rfl M.n_range (aj ae ag)) (gz 5 sc_slaw.nd) (ar (gw (im PySem.F.plainAttrs_list PySem.F.slot_list_append PySem.F.type_list_append gX (pv 4) (aj (aD c19 hr rfl (aj (pv 1) (aj (aM (ax (K:=K) rfl) (dj (aj bB (aj bB ag))) (aD c12 hr rfl (aj (pv 1) (aj ae ag))) (fun _ _=>rfl)) (aj (pv 2) ag)))) ag)))))
   (am (mo PassesOwn.never rfl (mO (K:=K) rfl (az (bR (K:=K) rfl) (pv 4) (be (bz (K:=K) rfl) (pv 4) cc (aP ae)))) (gz 6 sc_slaw.nd) (ar (bU (kj (d6 (aD c20 hr rfl (aj (aD c21 hr rfl (aj (pv 3) (aj (pv 6) ag))) (aj (aD c22 hr rfl (aj (pv 3) (aj (pv 6) ag))) ag))))) (ar (aH jI)) bp)))
   (ar (aH jI))))))))),
  (aA (aV (dM (ab (aa 0) ai)))
   (aA (aV (bn (ab (af _) ai)))
   (aA (bX (bb (ah b8 (bn (ab (af _) ai)) (af _))) (aV (bn (ab (af _) ai))) bq)
   (aA (aV (bn (ab (bn (ab (aa 2) ai)) ai)))
   (aA (aV (cP ai))
   (aA (mG (gE (ab (af _) ai)) (cG 5) (iO (qd hJ (ab (bn (ab (ah aN (cP (ab (bE _) (ab (bE _) ai))) (bn (ab (af _) ai))) (ab (aa 2) ai))) ai))))
   (aA (mG (mP (ah bS (aa 4) (bg bo (aa 4) cQ (aF (af _))))) (cG 6) (bX (iN (ip (cx (ab (dM (ab (aa 3) (ab (aa 6) ai))) (ab (dM (ab (aa 3) (ab (aa 6) ai))) ai))))) (aI (jV _)) bq))
   (aI (jV _)))))))))⟩
theorem t8{mc:Value}{k:Nat}(Y:Xs K mg "NoDeed" "at" "StrandError" "BadText" "Lacks" "NotLet" cC cS cf c1 c2 c3 id "ValueError.__init__" sa ow B mB)(sg:PySem.W.specialIn K (.ref cS) "__getattribute__"=some (some (.builtin "type.__getattribute__")))(sr:PySem.W.readsIn K cS mc=true)(sf:PySem.W.findCls K (.ref cS) mc "__init__"=some (.val (.builtin "ValueError.__init__"))):BdI P w K mg base "NoDeed.__init__" "at" cC cf kd ["self","at"] k :=
 fun _=>am (gw (tw (mc:=mc) rfl Y.xc rfl Y.mS sg sr sf (aj (pv 0) (aj (pv 1) ag)))) (ar (tx rfl Y.xc Y.fn (pv 0) (pv 1)))
end
set_option maxHeartbeats 0 in
theorem all_mk{l:PySem.W.OpenLaw}{w:World}{K:PySem.W.Frag}{h:Heap}{mg:Str->Option Value}{fa cC cS cf c1 c2 c3:Addr}(X:K.In h)(G:h.Ns mainGlobals mg)(hfa:mg "law"=some (.ref fa))
  (h1:FH K "is_turned" hX)(h2:FH K "name_of" kQ)(h3:FH K "mirrored" hZ)(h4:FH K "turned_beads" cK)(h5:FH K "turn" rp)(h6:FH K "change" kR)(h7:FH K "_law_fits" m6)(h8:FH K "_law_mirrored" gm)(h9:FH K "_law_turned" gP)(h10:FH K "_law_changed" ia)(h11:FH K "_law_line_behind" dS)(h12:FH K "_law_flow" m7)(h13:FH K "_law_pick" m8)(h14:FH K "_law_shuffled" gn)(h15:FH K "_law_line" kS)(h16:FH K "_law_letters" fI)(h17:FH K "_law_name" m9)(h18:FH K "_law_names" kT)(h19:FH K "_law_good_deed" gp)(h20:FH K "_law_any_deed" fJ)(h21:FH K "_law_alike" iS)(h22:FH K "_law_asked" kU)(h23:FH K "_law_due" rq)(h24:FH K "law" wg)
  {T0:Addr} {oc0:Value} {od0 an0:Option Addr} {kV0 dc0 pm0 cd0 ct0 mc0 tc0:Value} {td0:Option Addr} {nT0:Nat} {sl0 ts0:Array (Option Value)}
  (aC:PySem.W.nsIn K mainGlobals "NoDeed"=some (some (.ref cC))) (aS:PySem.W.nsIn K mainGlobals "StrandError"=some (some (.ref cS))) (e1:PySem.W.nsIn K mainGlobals "BadText"=some (some (.ref c1))) (e2:PySem.W.nsIn K mainGlobals "Lacks"=some (some (.ref c2))) (e3:PySem.W.nsIn K mainGlobals "NotLet"=some (some (.ref c3)))
  (xc:XC K cC cS cf "ValueError.__new__" "ValueError.__init__" "object.__setattr__" "object" "ValueError" mVE)
  (ga:PySem.W.findIn K (.ref cC) "__getattribute__"=some (some (.builtin "BaseException.__getattribute__"))) (gt:PySem.W.findIn K (.ref cC) "__getattr__"=some none) (hd:PySem.W.hasDictIn K cC=true) (ca:PySem.W.findIn K (.ref cC) "__class__"=some (some (.builtin "object.__class__")))
  (cn:PySem.W.specialIn K (.builtin "object.__class__") "__get__"=some (some (.builtin "getset_descriptor.__get__"))) (ck:PySem.W.takesIn K (.builtin "object.__class__")=some true) (cm:PySem.W.mroIn K cC (.type "object")=some true) (fn:PySem.W.findIn K (.ref cC) "at"=some none)
  (q1:PySem.W.kitOne K (.ref cC) (.ref cS)=some true) (q2:PySem.W.kitAny K (.ref cC) [.ref c1,.ref c2,.ref c3]=some false)
  (sg:PySem.W.specialIn K (.ref cS) "__getattribute__"=some (some (.builtin "type.__getattribute__"))) (sr:PySem.W.readsIn K cS mc0=true) (sf:PySem.W.findCls K (.ref cS) mc0 "__init__"=some (.val (.builtin "ValueError.__init__")))
  (l0:K.lookup cf=some ⟨oc0,od0,.func (PySem.W.fnOf "__init__" "NoDeed.__init__" (cF kd) (bK kd) (ak kd) (.ref T0) kV0 dc0 pm0 an0 cd0 ct0),sl0⟩) (c0:PySem.W.codeIn K cd0 "NoDeed.__init__"=true) (k0:PySem.W.keepIn K (.ref cf)=true) (t0:K.lookup T0=some ⟨tc0,td0,.seq #[.none] nT0,ts0⟩)
  (z_all:PySem.W.nsIn K mainGlobals "all"=some none) (z_bool:PySem.W.nsIn K mainGlobals "bool"=some none) (z_int:PySem.W.nsIn K mainGlobals "int"=some none) (z_isinstance:PySem.W.nsIn K mainGlobals "isinstance"=some none) (z_len:PySem.W.nsIn K mainGlobals "len"=some none) (z_list:PySem.W.nsIn K mainGlobals "list"=some none) (z_range:PySem.W.nsIn K mainGlobals "range"=some none) (z_reversed:PySem.W.nsIn K mainGlobals "reversed"=some none) (z_str:PySem.W.nsIn K mainGlobals "str"=some none) (z_tuple:PySem.W.nsIn K mainGlobals "tuple"=some none) :
  ∃fd:FuncData,(∀(s:Shared)(v:Value),BindsTo s fd ⟨[v],[]⟩ [("_law_script",v)])/\∀base:Heap,K.In base->base.Ns mainGlobals mg->FnOk l.prog w K mg base CX0 7 fa fd ["_law_script"] (n9 K):=by
 have M:Md mg:=⟨PySem.W.mg_none_of X G z_all,PySem.W.mg_none_of X G z_bool,PySem.W.mg_none_of X G z_int,PySem.W.mg_none_of X G z_isinstance,PySem.W.mg_none_of X G z_len,PySem.W.mg_none_of X G z_list,PySem.W.mg_none_of X G z_range,PySem.W.mg_none_of X G z_reversed,PySem.W.mg_none_of X G z_str,PySem.W.mg_none_of X G z_tuple⟩;refine h24.law X G hfa sc_slaw (fun _ _ _ _ _ _=>ar1 fun _=>rfl) t6 fun base=>?_;have Y:=xF (n:="at") X G xc aC aS e1 e2 e3 ga gt hd ca cn ck cm fn q1 q2;have F0:FunD K "__init__" "NoDeed.__init__" kd [.none] cf _:=⟨⟨_,_,_,_,_,_,_,_,_,_,_,_,rfl,l0,c0,t0,rfl⟩,k0⟩;have I:CalI l.prog w K mg base cC cf "at" 1:=⟨_,_,_,tD F0 tJ rfl (t8 Y sg sr sf),F0.binds (ps:=["self","at"]) fun _ _ _ _ _ _ _ us hl=>match us,(show us.length=1 by simpa using hl) with|[_],_=>⟨_,rfl,rfl⟩,.cons rfl .nil⟩
 have c0:fm l.prog w K mg base:=h1.cal X G kW (fun _ _ _ _ _ _=>ar1 fun _=>rfl) (lc M);have c1:kg l.prog w K mg base:=h2.cal X G ng (fun _ _ _ _ _ _=>ar1 fun _=>rfl) (nq M c0);have c2:js l.prog w K mg base:=h3.cal X G kX (fun _ _ _ _ _ _=>ar1 fun _=>rfl) (ma M c0 c1);have c3:fq l.prog w K mg base:=h4.cal X G iG (fun _ _ _ _ _ _=>ar1 fun _=>rfl) (iI M c2);have c4:rN l.prog w K mg base cC:=uK h5 X G rz (fun _ _ _ _ _ _=>ar3 fun _ _ _=>rfl) (t7 Y I M c3);have c5:lZ l.prog w K mg base cC:=uK h6 X G nh (fun _ _ _ _ _ _=>ar5 fun _ _ _ _ _=>rfl) (pB Y I M);have c6:jt l.prog w K mg base:=h7.cal X G pp (fun _ _ _ _ _ _=>ar2 fun _ _=>rfl) (md M);have c7:ft l.prog w K mg base:=h8.cal X G jG (fun _ _ _ _ _ _=>ar1 fun _=>rfl) (iJ M);have c8:gT l.prog w K mg base:=h9.cal X G lU (fun _ _ _ _ _ _=>ar3 fun _ _ _=>rfl) (jH M c7);have c9:fY l.prog w K mg base:=h10.cal X G sc_sLchanged (fun _ _ _ _ _ _=>ar5 fun _ _ _ _ _=>rfl) (jx M);have c10:di l.prog w K mg base:=h11.cal X G iH (fun _ _ _ _ _ _=>ar2 fun _ _=>rfl) (gr M c8 c9);have c11:ju l.prog w K mg base:=h12.cal X G pq (fun _ _ _ _ _ _=>ar1 fun _=>rfl) (me M);have c12:bM l.prog w K mg base:=h13.calI X G sc_sLpick (fun _ _ _ _ _ _=>ar2 fun _ _=>rfl) (mf M);have c13:fu l.prog w K mg base:=h14.calI X G sc_sLshuffled (fun _ _ _ _ _ _=>ar2 fun _ _=>rfl) (iK M c12);have c14:jv l.prog w K mg base:=h15.calI X G pr (fun _ _ _ _ _ _=>ar2 fun _ _=>rfl) (mh M c12 c13);have c15:dB l.prog w K mg base:=h16.calI X G kY (fun _ _ _ _ _ _=>ar2 fun _ _=>rfl) (jy M c12);have c16:jw l.prog w K mg base:=h17.calI X G sc_sLname (fun _ _ _ _ _ _=>ar2 fun _ _=>rfl) (mi M c12 c15);have c17:iz l.prog w K mg base:=h18.calI X G sc_sLnames (fun _ _ _ _ _ _=>ar2 fun _ _=>rfl) (le M c12 c15 c16);have c18:dZ l.prog w K mg base:=h19.calI X G sc_sLgooddeed (fun _ _ _ _ _ _=>ar3 fun _ _ _=>rfl) (ik M c12);have c19:fv l.prog w K mg base:=h20.calI X G sc_sLanydeed (fun _ _ _ _ _ _=>ar3 fun _ _ _=>rfl) (iL M c12 c18);have c20:iA l.prog w K mg base:=h21.alike X G ni (fun _ _ _ _ _ _=>ar2 fun _ _=>rfl) 20 (fun n u h=>pw h) (fun n gs hn=>lg M) 4 (by decide)
 have c21:iB l.prog w K mg base:=h22.cal X G sc_sLasked (fun _ _ _ _ _ _=>ar2 fun _ _=>rfl) (lh Y M c4 c5);have c22:kh l.prog w K mg base:=h23.cal X G rA (fun _ _ _ _ _ _=>ar2 fun _ _=>rfl) (nr M c6 c10);intro _ _ _ _ _ _ _;exact wr M c11 c12 c14 c17 c19 c20 c21 c22
end K47
open PySem PySem.W PyProof.Rows
set_option tactic.hygienic true
set_option maxRecDepth 100000 in
set_option maxHeartbeats 0 in
theorem PySem.Challenge.cw_strandwright_k47_stretches_turned_and_ch_holds : PySem.Challenge.rw_strandwright_k47_stretches_turned_and_ch.Holds := by
 w_on;o_law;k_head;(case hw=>w_witness2)
 k_fill
 refine VF.walkL (l:=PySem.Challenge.rw_strandwright_k47_stretches_turned_and_ch) (k:=7) rfl rfl ⟨rfl,by decide,by decide⟩ (fun w h Y=>PySem.W.kIn_of Y) ?F
 case F =>
  intro w mg fa h KX G hmg;refine' K47.all_mk (mc0:=.type "type") KX G hmg (VF.fh ?a1 ?l1 ?c1 ?k1) (VF.fh ?a2 ?l2 ?c2 ?k2) (VF.fh ?a3 ?l3 ?c3 ?k3) (VF.fh ?a4 ?l4 ?c4 ?k4) (VF.fh ?a5 ?l5 ?c5 ?k5) (VF.fh ?a6 ?l6 ?c6 ?k6) (VF.fh ?a7 ?l7 ?c7 ?k7) (VF.fh ?a8 ?l8 ?c8 ?k8) (VF.fh ?a9 ?l9 ?c9 ?k9) (VF.fh ?a10 ?l10 ?c10 ?k10) (VF.fh ?a11 ?l11 ?c11 ?k11) (VF.fh ?a12 ?l12 ?c12 ?k12) (VF.fh ?a13 ?l13 ?c13 ?k13) (VF.fh ?a14 ?l14 ?c14 ?k14) (VF.fh ?a15 ?l15 ?c15 ?k15) (VF.fh ?a16 ?l16 ?c16 ?k16) (VF.fh ?a17 ?l17 ?c17 ?k17) (VF.fh ?a18 ?l18 ?c18 ?k18) (VF.fh ?a19 ?l19 ?c19 ?k19) (VF.fh ?a20 ?l20 ?c20 ?k20) (VF.fh ?a21 ?l21 ?c21 ?k21) (VF.fh ?a22 ?l22 ?c22 ?k22) (VF.fh ?a23 ?l23 ?c23 ?k23) (VF.fh ?a24 ?l24 ?c24 ?k24) ?aC ?aS ?e1 ?e2 ?e3 (VX.xc_mk ?xl (VX.nsOk_of ?xn ?xt) ?xi ?xl2 (VX.nsOk_of ?xn2 ?xt2) ?xi2 ?xst ?xlf ?xfc ?xkp) ?ga ?gt ?hd ?ca ?cn ?ck ?cm ?fn ?q1 ?q2 ?sg ?sr ?sf ?l0 ?c0 ?k0 ?t0 ?z_all ?z_bool ?z_int ?z_isinstance ?z_len ?z_list ?z_range ?z_reversed ?z_str ?z_tuple
  (case aC=>k_is)
  (case aS=>k_is)
  (case e1=>k_is)
  (case e2=>k_is)
  (case e3=>k_is)
  (case xl=>k_is)
  (case xn=>k_is)
  (case xt=>exact rfl)
  (case xi=>k_is)
  (case xlf=>k_is)
  (case xfc=>rfl)
  (case xl2=>k_is)
  (case xn2=>k_is)
  (case xt2=>exact rfl)
  (case xi2=>k_is)
  (case xst=>k_is)
  (case xkp=>k_is)
  (case ga=>k_is)
  (case gt=>k_is)
  (case hd=>k_is)
  (case ca=>k_is)
  (case cn=>k_is)
  (case ck=>k_is)
  (case cm=>k_is)
  (case fn=>k_is)
  (case q1=>kit_is)
  (case q2=>kit_is)
  (case sg=>k_is)
  (case sr=>k_is)
  (case sf=>k_is)
  (case l0=>k_is)
  (case c0=>k_is)
  (case k0=>k_is)
  (case t0=>k_is)
  (case a1=>k_is)
  (case l1=>k_is)
  (case c1=>k_is)
  (case k1=>k_is)
  (case a2=>k_is)
  (case l2=>k_is)
  (case c2=>k_is)
  (case k2=>k_is)
  (case a3=>k_is)
  (case l3=>k_is)
  (case c3=>k_is)
  (case k3=>k_is)
  (case a4=>k_is)
  (case l4=>k_is)
  (case c4=>k_is)
  (case k4=>k_is)
  (case a5=>k_is)
  (case l5=>k_is)
  (case c5=>k_is)
  (case k5=>k_is)
  (case a6=>k_is)
  (case l6=>k_is)
  (case c6=>k_is)
  (case k6=>k_is)
  (case a7=>k_is)
  (case l7=>k_is)
  (case c7=>k_is)
  (case k7=>k_is)
  (case a8=>k_is)
  (case l8=>k_is)
  (case c8=>k_is)
  (case k8=>k_is)
  (case a9=>k_is)
  (case l9=>k_is)
  (case c9=>k_is)
  (case k9=>k_is)
  (case a10=>k_is)
  (case l10=>k_is)
  (case c10=>k_is)
  (case k10=>k_is)
  (case a11=>k_is)
  (case l11=>k_is)
  (case c11=>k_is)
  (case k11=>k_is)
  (case a12=>k_is)
  (case l12=>k_is)
  (case c12=>k_is)
  (case k12=>k_is)
  (case a13=>k_is)
  (case l13=>k_is)
  (case c13=>k_is)
  (case k13=>k_is)
  (case a14=>k_is)
  (case l14=>k_is)
  (case c14=>k_is)
  (case k14=>k_is)
  (case a15=>k_is)
  (case l15=>k_is)
  (case c15=>k_is)
  (case k15=>k_is)
  (case a16=>k_is)
  (case l16=>k_is)
  (case c16=>k_is)
  (case k16=>k_is)
  (case a17=>k_is)
  (case l17=>k_is)
  (case c17=>k_is)
  (case k17=>k_is)
  (case a18=>k_is)
  (case l18=>k_is)
  (case c18=>k_is)
  (case k18=>k_is)
  (case a19=>k_is)
  (case l19=>k_is)
  (case c19=>k_is)
  (case k19=>k_is)
  (case a20=>k_is)
  (case l20=>k_is)
  (case c20=>k_is)
  (case k20=>k_is)
  (case a21=>k_is)
  (case l21=>k_is)
  (case c21=>k_is)
  (case k21=>k_is)
  (case a22=>k_is)
  (case l22=>k_is)
  (case c22=>k_is)
  (case k22=>k_is)
  (case a23=>k_is)
  (case l23=>k_is)
  (case c23=>k_is)
  (case k23=>k_is)
  (case a24=>k_is)
  (case l24=>k_is)
  (case c24=>k_is)
  (case k24=>k_is)
  (case z_all=>k_is)
  (case z_bool=>k_is)
  (case z_int=>k_is)
  (case z_isinstance=>k_is)
  (case z_len=>k_is)
  (case z_list=>k_is)
  (case z_range=>k_is)
  (case z_reversed=>k_is)
  (case z_str=>k_is)
  (case z_tuple=>k_is)

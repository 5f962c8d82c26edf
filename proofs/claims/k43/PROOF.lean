import PyProof.Rows.All
import Wide.All
import OpenK.AllK
import Wide.FinOn
import Lean
import PyProof.EqAt
import PyProof.EqKinds
import PyProof.TupleCall
import KE.KRevIter
import PySem.Challenge.RW_strandwright_k43_knots
set_option maxHeartbeats 2000000
set_option Elab.async false
set_option linter.all false
set_option maxRecDepth 100000
local macro_rules | `(tactic| omega) => `(tactic| first | assumption | exact Nat.le_refl _ | exact Nat.zero_le _ | exact Nat.succ_pos _ | lia)
namespace L2
open PySem PySem.Spec PyProof.Rows
noncomputable abbrev Key:=Sum Int Str
noncomputable def keyIs:Key->Value->Bool
 | .inl k,v=>Value.isInt k v
 | .inr x,v=>Value.isStrOf x v
noncomputable def keyH (w:World):Key->Int
 | .inl k=>hashInt k
 | .inr x=>hashStr w x
theorem keyIs_shape:∀{k:Key} {v:Value},keyIs k v=true->(∃i t,k=Sum.inl i/\v=Value.int i t)∨(∃x t,k=Sum.inr x/\v=Value.str x t)
 | .inl i,v,h=>by
  obtain⟨t,e⟩:=Value.isInt_shape (k:=i) (v:=v) h;exact .inl ⟨i,t,rfl,e⟩
 | .inr x,v,h=>by
  obtain⟨t,e⟩:=Value.isStrOf_shape (x:=x) (v:=v) h;exact .inr ⟨x,t,rfl,e⟩
theorem keyIs_int (i:Int) (t:Tok):keyIs (.inl i) (.int i t)=true:=by simp[keyIs,Value.isInt]
theorem keyIs_str (x:Str) (t:Tok):keyIs (.inr x) (.str x t)=true:=by simp[keyIs,Value.isStrOf]
theorem key_ll (a b:Int):decide ((Sum.inl a:Key)=Sum.inl b)=(a == b):=by
 by_cases e:a=b
 ·subst e;simp
 ·have h:¬ (Sum.inl a:Key)=Sum.inl b:=fun q=>e (Sum.inl.inj q);rw[decide_eq_false h];exact(beq_eq_false_iff_ne.mpr e).symm
theorem key_rr (a b:Str):decide ((Sum.inr a:Key)=Sum.inr b)=decide (a=b):=by
 by_cases e:a=b
 ·subst e;simp
 ·have h:¬ (Sum.inr a:Key)=Sum.inr b:=fun q=>e (Sum.inr.inj q);rw[decide_eq_false h,decide_eq_false e]
theorem key_lr (a:Int) (b:Str):decide ((Sum.inl a:Key)=Sum.inr b)=false:=decide_eq_false (fun q=>nomatch q)
theorem key_rl (a:Str) (b:Int):decide ((Sum.inr a:Key)=Sum.inl b)=false:=decide_eq_false (fun q=>nomatch q)
noncomputable def mixKind (prog:Program) (w:World):PySem.KeyKind prog w Key where
 is:=keyIs
 hash:=keyH w
 inj:=fun v a b ha hb=>by
  rcases keyIs_shape ha with⟨i,t,rfl,rfl⟩|⟨x,t,rfl,rfl⟩
  ·rcases keyIs_shape hb with⟨j,u,rfl,e⟩|⟨y,u,rfl,e⟩
   ·injection e with e1 _;rw[e1]
   ·exact nomatch e
  ·rcases keyIs_shape hb with⟨j,u,rfl,e⟩|⟨y,u,rfl,e⟩
   ·exact nomatch e
   ·injection e with e1 _;rw[e1]
 byValue:=fun k v h=>by
  rcases keyIs_shape h with⟨i,t,rfl,rfl⟩|⟨x,t,rfl,rfl⟩<;>rfl
 pyHash:=fun hv h=>by
  rcases keyIs_shape hv with⟨i,t,rfl,rfl⟩|⟨x,t,rfl,rfl⟩
  ·exact wpAny_pyHash_int h
  ·exact wpAny_pyHash_str h
 eqBool:=fun hu hv h=>by
  rcases keyIs_shape hu with⟨i,t,rfl,rfl⟩|⟨x,t,rfl,rfl⟩
  ·rcases keyIs_shape hv with⟨j,u,rfl,rfl⟩|⟨y,u,rfl,rfl⟩
   ·rw[key_ll]at h;exact wpAny_eqBool_int h
   ·rw[key_lr]at h;exact SeqAt.EqAt.int_str i t y u _ _ _ _ h
  ·rcases keyIs_shape hv with⟨j,u,rfl,rfl⟩|⟨y,u,rfl,rfl⟩
   ·rw[key_rl]at h;exact SeqAt.EqAt.str_int x t j u _ _ _ _ h
   ·rw[key_rr]at h;exact wpAny_eqBool_str h
 «strs»:=fun k x t v h=>by
  rcases keyIs_shape h with⟨i,u,rfl,e⟩|⟨y,u,rfl,e⟩
  ·exact nomatch e
  ·injection e with e1 _
   subst e1;cases v<;>rfl
theorem mixKind_int (prog:Program) (w:World) (i:Int) (t:Tok):(mixKind prog w).is (.inl i) (.int i t)=true:=keyIs_int i t
theorem mixKind_str (prog:Program) (w:World) (x:Str) (t:Tok):(mixKind prog w).is (.inr x) (.str x t)=true:=keyIs_str x t
end L2
namespace L2
open PySem PySem.Spec PyProof.Rows
inductive V where
 | non|bl (b:Bool)|int (i:Int)|str (x:Str)|byt (b:Array UInt8)|flt (b:UInt64)|ref (a:Addr)|ty (n:String)
 deriving DecidableEq
noncomputable def RelV:V->Value->Prop
 | .non,u=>u=Value.none
 | .bl b,u=>u=Value.bool b
 | .int i,u=>∃t,u=Value.int i t
 | .str x,u=>∃t,u=Value.str x t
 | .byt b,u=>∃t,u=Value.bytes b t
 | .flt b,u=>∃t,u=Value.float b t
 | .ref a,u=>u=Value.ref a
 | .ty n,u=>u=Value.type n
noncomputable abbrev Vals:List V->List Value->Prop:=Paired RelV
theorem Vals.length {xs:List V} {us:List Value} (r:Vals xs us):xs.length=us.length:=Paired.length r
theorem Vals.get:∀{xs:List V} {us:List Value} {i:Nat} {x:V},Vals xs us->xs[i]?=some x->∃u,us[i]?=some u/\RelV x u
 | _,_,_,_,.nil,e=>by simp at e
 | _,_,0,_,.cons r _,e=>by simp at e;subst e;exact⟨_,rfl,r⟩
 | _,_,i+1,x,.cons _ t,e=>by
  obtain⟨u,h1,h2⟩:=Vals.get (i:=i) (x:=x) t (by simpa using e)
  exact⟨u,by simpa using h1,h2⟩
theorem Vals.set {x:V} {u:Value} (r:RelV x u):∀{xs:List V} {us:List Value} (i:Nat),Vals xs us->Vals (xs.set i x) (us.set i u)
 | _,_,_,.nil=>.nil
 | _,_,0,.cons _ t=>.cons r t
 | _,_,i+1,.cons q t=>.cons q (Vals.set r i t)
theorem Vals.append:∀{xs ys:List V} {us ws:List Value},Vals xs us->Vals ys ws->Vals (xs++ys) (us++ws)
 | _,_,_,_,.nil,s=>s
 | _,_,_,_,.cons r t,s=>.cons r (Vals.append t s)
theorem Vals.take:∀{xs:List V} {us:List Value} (n:Nat),Vals xs us->Vals (xs.take n) (us.take n)
 | _,_,0,_=>.nil
 | _,_,_+1,.nil=>.nil
 | _,_,n+1,.cons r t=>.cons r (Vals.take n t)
theorem Vals.drop:∀{xs:List V} {us:List Value} (n:Nat),Vals xs us->Vals (xs.drop n) (us.drop n)
 | _,_,0,r=>r
 | _,_,_+1,.nil=>.nil
 | _,_,n+1,.cons _ t=>Vals.drop n t
noncomputable def RelO:Option V->Option Value->Prop
 | some v,some u=>RelV v u
 | none,none=>True
 | _,_=>False
noncomputable def KV {κ:Type}:List (κ×V)->List (κ×Value)->Prop:=Paired fun(p:κ×V) (q:κ×Value)=>p.1=q.1/\RelV p.2 q.2
noncomputable def kV:Key->V
 | .inl i=>.int i
 | .inr x=>.str x
inductive HO where
  | lst (xs:List V)
  | tup (xs:List V)
  | dK (kvs:List (Key×V))|dT (ep:Nat×List Addr) (kvs:List (List Key×V))
  | set (S:Int->Bool) (n:Nat)
  | ins (C dx:Addr) (fs:List (Str×V))
  | own (x:Addr)
  | xd (fs:List (Str×V))
  | met (f x:Addr)
  | rng (lo hi:Int)
  | frz (o:Obj) (u:HO)
  | tbl (ps:Array Value)
  | ext (φ:Heap->Prop)
noncomputable abbrev Hp:=Addr->Option HO
noncomputable def upd (H:Hp) (a:Addr) (o:HO):Hp:=fun b=>if b=a then some o else H b
theorem upd_same {H:Hp} {a:Addr} {o:HO}:upd H a o a=some o:=by unfold upd;rw[if_pos rfl]
theorem upd_ne {H:Hp} {a b:Addr} {o:HO} (h:b≠a):upd H a o b=H b:=by unfold upd;rw[if_neg h]
theorem ne_of {H:Hp} {a b:Addr} {o u:HO} (h:H a=some o) (h':H b=some u) (d:o≠u):a≠b:=by
 intro e;subst e;rw[h]at h';exact d (Option.some.inj h')
theorem ne_of_none {H:Hp} {a b:Addr} {o:HO} (h:H a=some o) (h':H b=none):a≠b:=by
 intro e;subst e;rw[h]at h';cases h'
section
variable (P:Program) (w:World)
noncomputable def ObjOk (H:Hp) (h:Heap) (a:Addr):HO->Prop
 | .lst xs=>xs.length<=sizeLine/\∃(its:List Value) (n:Nat),Vals xs its/\h.get? a=some { cls:=.type "list",data:=.seq its.toArray n }
 | .tup xs=>xs.length<=sizeLine/\∃its:List Value,Vals xs its/\IsTup h a its.toArray
 | .dK kvs=>kvs.length<=sizeLine/\(a == sysModules)=false/\∃vs,KV kvs vs/\h.DictOf (mixKind P w) a vs
 | .dT ep kvs=>kvs.length<=sizeLine/\(a == sysModules)=false/\∃xs:List (List Key×Addr×Value),
   Paired (fun(p:List Key×V) (q:List Key×Addr×Value)=>p.1=q.1/\H q.2.1=some (.tup (p.1.map kV))/\RelV p.2 q.2.2) kvs xs /\
   xs.map (·.2.1)=ep.2/\∃o es,h.get? a=some o/\o.ExactDict/\o.data=.dict es ep.1/\es.toList=xs.map (entryOfKey (tupleKind (mixKind P w)))/\(xs.map (·.1)).Nodup
 | .set S n=>h.SetOf (intKind P w) a S n
 | .ins C dx fs=>H dx=some (.own a)/\fs.length<=1000/\dx≠a/\h.get? a=some (PySem.W.instObj C dx) /\
   ∃mA,h.Ns1 dx mA/\(∀f,RelO (fs.lookup f) (mA f))/\PySem.Within mA (fs.map (·.1))
 | .own _=>∃o,h.get? a=some o
 | .xd fs=>∃mA,h.Ns1 a mA/\∀f,RelO (fs.lookup f) (mA f)
 | .rng lo hi=>∃t u v,h.get? a=some { cls:=.type "range",data:=.fields #[.int lo t,.int hi u,.int 1 v] }
 | .frz o u=>h.get? a=some o/\ObjOk H h a u
 | .tbl ps=>h.get? a=some { cls:=.none,data:=.fields ps }
 | .met f x=>h.get? a=some (PySem.W.methodObj (.ref f) (.ref x))
 | .ext φ=>φ h/\(∃o,h.get? a=some o)/\∀h1 h2:Heap,φ h1->(∀o,h1.get? a=some o->h2.get? a=some o)->φ h2
noncomputable def HOk (H:Hp) (h:Heap):Prop:=∀a o,H a=some o->ObjOk P w H h a o
end
section
variable {P:Program} {w:World} {H H':Hp} {h h':Heap} {a:Addr} {o:HO}
theorem ObjOk.lt (x:ObjOk P w H h a o):a<h.objs.size:=by
 cases o with
 | lst xs=>obtain⟨_,_,_,_,e⟩:=x;exact Heap.lt_size e
 | tup xs=>obtain⟨_,_,_,p⟩:=x;exact p.lt
 | dK kvs=>obtain⟨_,_,_,_,o,_,_,e,_⟩:=x;exact Heap.lt_size e
 | dT ep kvs=>obtain⟨_,_,_,_,_,o,_,e,_⟩:=x;exact Heap.lt_size e
 | set S n=>obtain⟨o,_,_,_,e,_⟩:=x;exact Heap.lt_size e
 | ins C dx fs=>obtain⟨_,_,_,e,_⟩:=x;exact Heap.lt_size e
 | own y=>obtain⟨_,e⟩:=x;exact Heap.lt_size e
 | xd fs=>obtain⟨_,⟨_,_,_,e,_⟩,_⟩:=x;exact Heap.lt_size e
 | rng lo hi=>obtain⟨_,_,_,e⟩:=x;exact Heap.lt_size e
 | frz ob u=>obtain⟨e,_⟩:=x;exact Heap.lt_size e
 | tbl ps=>exact Heap.lt_size (show h.get? a=some _ from x)
 | met f y=>exact Heap.lt_size (show h.get? a=some _ from x)
 | ext φ=>obtain⟨_,⟨_,e⟩,_⟩:=x;exact Heap.lt_size e
theorem Paired.mapP {α β:Type} {F G:α->β->Prop}:∀{l₁:List α} {l₂:List β},Paired F l₁ l₂->(∀a b,F a b->G a b)->Paired G l₁ l₂
 | _,_,.nil,_=>.nil
 | _,_,.cons r t,f=>.cons (f _ _ r) (Paired.mapP t f)
theorem ObjOk.stay (x:ObjOk P w H h a o) (k:∀b u,(b=a∨H b=some (.own a))->h.get? b=some u->h'.get? b=some u)
  (ho:∀b,H b=some (.own a)->H' b=some (.own a)) (ht:∀b xs,H b=some (.tup xs)->H' b=some (.tup xs)):ObjOk P w H' h' a o:=by
 induction o with
 | lst xs=>obtain⟨z,its,n,r,e⟩:=x;exact⟨z,its,n,r,k _ _ (.inl rfl) e⟩
 | tup xs=>obtain⟨z,its,r,ob,e,c⟩:=x;exact⟨z,its,r,ob,k _ _ (.inl rfl) e,c⟩
 | dK kvs=>obtain⟨z,y,vs,r,ob,es,ep,e,c⟩:=x;exact⟨z,y,vs,r,ob,es,ep,k _ _ (.inl rfl) e,c⟩
 | dT ep kvs =>
  obtain⟨z,y,xs,r,ra,ob,es,e,c⟩:=x;exact⟨z,y,xs,Paired.mapP r fun p q z=>⟨z.1,ht _ _ z.2.1,z.2.2⟩,ra,ob,es,k _ _ (.inl rfl) e,c⟩
 | set S n=>obtain⟨ob,es,ep,t,e,c⟩:=x;exact⟨ob,es,ep,t,k _ _ (.inl rfl) e,c⟩
 | ins C dx fs =>
  obtain⟨d,z,ne,e,mA,⟨od,es,ep,e2,c⟩,r⟩:=x;exact⟨ho _ d,z,ne,k _ _ (.inl rfl) e,mA,⟨od,es,ep,k _ _ (.inr d) e2,c⟩,r⟩
 | own y=>obtain⟨ob,e⟩:=x;exact⟨ob,k _ _ (.inl rfl) e⟩
 | xd fs=>obtain⟨mA,⟨od,es,ep,e,c⟩,r⟩:=x;exact⟨mA,⟨od,es,ep,k _ _ (.inl rfl) e,c⟩,r⟩
 | rng lo hi=>obtain⟨t,u,v,e⟩:=x;exact⟨t,u,v,k _ _ (.inl rfl) e⟩
 | frz ob u ih=>obtain⟨e,q⟩:=x;exact⟨k _ _ (.inl rfl) e,ih q⟩
 | tbl ps =>
  have e:h.get? a=some { cls:=.none,data:=.fields ps }:=x;show h'.get? a=some { cls:=.none,data:=.fields ps };exact k a _ (.inl rfl) e
 | met f y =>
  have e:h.get? a=some (PySem.W.methodObj (.ref f) (.ref y)):=x;show h'.get? a=some (PySem.W.methodObj (.ref f) (.ref y));exact k a _ (.inl rfl) e
 | ext φ=>obtain⟨p,⟨o,e⟩,st⟩:=x;exact⟨st _ _ p fun o q=>k _ _ (.inl rfl) q,⟨o,k _ _ (.inl rfl) e⟩,st⟩
theorem HOk.lt (x:HOk P w H h) (e:H a=some o):a<h.objs.size:=(x a o e).lt
theorem HOk.fresh (x:HOk P w H h) (e:h.objs.size<=a):H a=none:=by
 cases q:H a with
 | none=>rfl
 | some u=>exact absurd (Nat.lt_of_lt_of_le (x.lt q) e) (Nat.lt_irrefl _)
theorem HOk.kept (x:HOk P w H h) (k:∀b u,h.get? b=some u->h'.get? b=some u):HOk P w H h':=fun a o e =>
 (x a o e).stay (fun b u _ q=>k b u q) (fun _ q=>q) fun _ _ q=>q
theorem HOk.laid (x:HOk P w H h) (k:∀b u,h.get? b=some u->h'.get? b=some u) (hp:h.objs.size<=a) (new:ObjOk P w (upd H a o) h' a o):HOk P w (upd H a o) h':=fun b u e=>by
 have hn:=x.fresh hp;by_cases hb:b=a
 ·subst hb;rw[upd_same]at e;cases e;exact new
 ·rw[upd_ne hb]at e;exact(x b u e).stay (fun c v _ q=>k c v q) (fun c q=>by rw[upd_ne (ne_of_none q hn)];exact q) fun c xs q=>by rw[upd_ne (ne_of_none q hn)];exact q
end
noncomputable def Rd (H:Hp) (a:Addr) (u:HO):Prop:=H a=some u∨∃o,H a=some (.frz o u)
theorem Rd.ok {P:Program} {w:World} {H:Hp} {h:Heap} {a:Addr} {u:HO} (r:Rd H a u) (x:HOk P w H h):ObjOk P w H h a u:=by
 rcases r with r|⟨o,r⟩
 ·exact x a u r
 ·obtain⟨_,q⟩:=x a _ r;exact q
noncomputable def Mut:Option HO->Prop
 | some (.lst _)=>True
 | some (.dK _)=>True
 | some (.dT _ _)=>True
 | some (.set _ _)=>True
 | some (.ins _ _ _)=>True
 | some (.ext _)=>True
 | _=>False
section
variable {P:Program} {w:World} {H:Hp} {h h':Heap} {x e:Addr} {o':HO}
theorem HOk.write (ok:HOk P w H h) (mu:Mut (H x)) (he:e=x∨H e=some (.own x)) (k:∀b u,b≠e->h.get? b=some u->h'.get? b=some u) (heo:∃u,h'.get? e=some u)
  (new:ObjOk P w (upd H x o') h' x o'):HOk P w (upd H x o') h':=fun b u q=>by
 have nown:∀c y,H c=some (.own y)->c≠x:=fun c y r z=>by subst z;rw[r]at mu;exact mu
 have ntup:∀c xs,H c=some (.tup xs)->c≠x:=fun c xs r z=>by subst z;rw[r]at mu;exact mu
 by_cases hb:b=x
 ·subst hb;rw[upd_same]at q;cases q;exact new
 ·rw[upd_ne hb]at q;by_cases hbe:b=e
  ·have q':H b=some (.own x):=by
    rcases he with z|z
    ·exact absurd (hbe.trans z) hb
    ·rw[hbe];exact z
   rw[q]at q';cases q';obtain⟨v,hv⟩:=heo;exact⟨v,by rw[hbe];exact hv⟩
  ·refine(ok b u q).stay (fun c v hc r=>k c v ?_ r) (fun c r=>by rw[upd_ne (nown c b r)];exact r) fun c xs r=>by rw[upd_ne (ntup c xs r)];exact r
   rcases hc with rfl|hc
   ·exact hbe
   ·rintro rfl;rcases he with z|z
    ·exact nown c b hc z
    ·rw[hc]at z;cases z;exact hb rfl
end
structure Un (fs ex:List Addr) (H H':Hp) (h h':Heap):Prop where
 keep:∀b o,h.get? b=some o->H b=none->b∉fs->b∉ex->h'.get? b=some o
 slot:∀b o,h.get? b=some o->H b=none->b∈fs->b∉ex->∃sl,h'.get? b=some { o with slots:=sl }
 free:∀b o,h.get? b=some o->H b=none->b∉ex->H' b=none
 there:∀b o,h.get? b=some o->b∉ex->∃o',h'.get? b=some o'
 tups:∀b xs,H b=some (.tup xs)->H' b=some (.tup xs)
 frzs:∀b o u,H b=some (.frz o u)->H' b=some (.frz o u)
 tbls:∀b ps,H b=some (.tbl ps)->∃more,H' b=some (.tbl (ps++more))
section
variable {fs fs' ex ex':List Addr} {H H1 H2:Hp} {h h1 h2 h':Heap} {a x e:Addr} {o:HO}
theorem Un.any (u:Un fs ex H H1 h h1) {b:Addr} {ob:Obj} (q:h.get? b=some ob) (n:H b=none) (hx:b∉ex):∃sl,h1.get? b=some { ob with slots:=sl }:=by
 by_cases hb:b∈fs
 ·exact u.slot b ob q n hb hx
 ·exact⟨ob.slots,u.keep b ob q n hb hx⟩
theorem Un.kept (k:∀b u,h.get? b=some u->h'.get? b=some u):Un fs ex H H h h' :=
 ⟨fun b ob q _ _ _=>k b ob q,fun b ob q _ _ _=>⟨ob.slots,k b ob q⟩,fun _ _ _ n _=>n,fun b ob q _=>⟨ob,k b ob q⟩,fun _ _ q=>q,fun _ _ _ q=>q,fun _ ps q=>⟨#[],by rw[q];simp⟩⟩
theorem Un.refl:Un fs ex H H h h:=Un.kept fun _ _ q=>q
theorem Un.laid (k:∀b u,h.get? b=some u->h'.get? b=some u) (hp:h.objs.size<=a) (hn:H a=none):Un fs ex H (upd H a o) h h' where
 keep:=fun b u q _ _ _=>k b u q
 slot:=fun b u q _ _ _=>⟨u.slots,k b u q⟩
 free:=fun b u q n _=>by rw[upd_ne (Nat.ne_of_lt (Nat.lt_of_lt_of_le (Heap.lt_size q) hp))];exact n
 there:=fun b u q _=>⟨u,k b u q⟩
 tups:=fun b xs q=>by rw[upd_ne (ne_of_none q hn)];exact q
 frzs:=fun b u xs q=>by rw[upd_ne (ne_of_none q hn)];exact q
 tbls:=fun b ps q=>⟨#[],by rw[upd_ne (ne_of_none q hn),q];simp⟩
theorem Un.write (mu:Mut (H x)) (he:e=x∨H e=some (.own x)) (k:∀b u,b≠e->h.get? b=some u->h'.get? b=some u) (heo:∃u,h'.get? e=some u):Un fs ex H (upd H x o) h h':=by
 have hx:∀b,H b=none->b≠x:=fun b n z=>by subst z;rw[n]at mu;exact mu
 have hb:∀b,H b=none->b≠e:=fun b n z=>by
  subst z;rcases he with r|r
  ·exact hx b n r
  ·rw[n]at r;cases r
 have hm:∀b u,H b=some u->¬ Mut (some u)->b≠x:=fun b u q nm z=>by subst z;rw[q]at mu;exact nm mu
 refine⟨fun b u q n _ _=>k b u (hb b n) q,fun b u q n _ _=>⟨u.slots,k b u (hb b n) q⟩,fun b u q n _=>by rw[upd_ne (hx b n)];exact n,fun b u q _=>?_,
  fun b xs q=>by rw[upd_ne (hm b _ q fun z=>z)];exact q,fun b u xs q=>by rw[upd_ne (hm b _ q fun z=>z)];exact q,fun b ps q=>⟨#[],by rw[upd_ne (hm b _ q fun z=>z),q];simp⟩⟩
 by_cases hbe:b=e
 ·subst hbe;exact heo
 ·exact⟨u,k b u hbe q⟩
end
noncomputable def trk (h:Heap) (H:Hp):List Addr:=(List.range h.objs.size).filter fun a=>(H a).isSome
noncomputable def hidT (h:Heap) (H:Hp):Heap:=PySem.W.hideAll h (trk h H)
theorem hidT_size (h:Heap) (H:Hp):(hidT h H).objs.size=h.objs.size:=PySem.W.hideAll_size _ _
theorem hidT_get {h:Heap} {H:Hp} {b:Addr} {o:Obj} (e:h.get? b=some o) (n:H b=none):(hidT h H).get? b=some o :=
 PySem.W.hideAll_get _ e fun hm=>by
  have q:(H b).isSome=true:=(List.mem_filter.mp hm).2;rw[n]at q;simp at q
theorem of_hidT {h:Heap} {H:Hp} {b:Addr} {o:Obj} (e:(hidT h H).get? b=some o):h.get? b=some o/\H b=none:=by
 have e':h.get? b=some o:=PySem.W.of_hideAll (trk h H) e;refine⟨e',?_⟩;cases q:H b with
 | none=>rfl
 | some x =>
  have hm:b∈trk h H:=List.mem_filter.mpr ⟨List.mem_range.mpr (Heap.lt_size e'),by simp[q]⟩
  have z:(hidT h H).get? b=none:=PySem.W.hideAll_none (trk h H) hm;rw[z]at e;cases e
end L2
namespace L2
open PySem PySem.Spec PyProof.Rows
structure Mod (K:PySem.W.Frag) (mg:Str->Option Value) (base:Heap):Prop where
 kin:K.In base
 glob:base.Ns mainGlobals mg
 blt:∃mb,base.Ns builtinsNs mb/\∀x:Str,x≠"__name__"->mb x=bootBuiltins x
 nolimit:base.NoLimit
structure Cx where
 prog:Program
 w:World
 K:PySem.W.Frag
 mg:Str->Option Value
 base:Heap
 A:Around
 N:List Str
 s₀:Shared
 H₀:Hp
 env:Env
 outer:List Env
 stack:List Env
 ex:List Addr
 fn:Str->Bool
 calm:Bool
 pn:List (Addr×Obj)
 xe:Value->Shared->Prop
noncomputable def frs (l:List Env):List Addr:=l.filterMap (·.frame)
noncomputable abbrev Cx.fs (X:Cx):List Addr:=frs X.outer
noncomputable def Vis (sc:Scope) (x:Str):Prop:=sc.names.lookup x=some .local∨sc.names.lookup x=some .cell∨sc.names.lookup x=some .free
noncomputable def Loc (sc:Scope) (x:Str):Prop:=sc.names.lookup x=some .local∨sc.names.lookup x=some .cell
noncomputable def Look (env:Env) (h:Heap) (m:Str->Option Value) (x:Str) (u:Value):Prop :=
 (env.kindOf x=some .local/\m x=some u)∨((env.kindOf x=some .cell∨env.kindOf x=some .free)/\∃c,env.cells.lookup x=some c/\h.IsCell c (some u))
structure Cx.Ok (X:Cx):Prop where
 mod:Mod X.K X.mg X.base
 kind:X.env.scope.kind=.function
 glob:X.env.globals=mainGlobals
 blt:X.env.builtins=builtinsNs
 above:X.s₀.heap.objs.size<=X.env.locals
 inj:∀x y c,X.env.cells.lookup x=some c->X.env.cells.lookup y=some c->x=y
 has:∀x,(X.env.kindOf x=some .cell∨X.env.kindOf x=some .free)->∃c,X.env.cells.lookup x=some c
 cab:∀x c,X.fn x=true->X.env.cells.lookup x=some c->X.s₀.heap.objs.size<=c
 hd:X.calm=true->X.A.handled=none
 frames:X.A.frames=some X.stack
 stk:X.stack=X.outer∨(X.stack=X.env::X.outer/\X.env.frame=some X.env.locals)
 exf:∀b∈X.ex,b≠X.env.locals/\∀x c,X.env.cells.lookup x=some c->c≠b
 bs:∀b o,X.base.get? b=some o->X.s₀.heap.get? b=some o/\X.H₀ b=none
 bsz:X.base.objs.size<=X.s₀.heap.objs.size
 noex:∀b o,X.base.get? b=some o->b∉X.ex
 exfs:∀b∈X.ex,b∉X.fs
 funs:X.s₀.heap.FunFrames X.base X.outer
 frf:∀b∈X.fs,X.H₀ b=none
structure Inv (X:Cx) (pins:List (Addr×Obj)) (σ:List (Option V)) (H:Hp) (s:Shared):Prop where
 ok:X.Ok
 os:s.os=X.s₀.os
 bare:AllBare s.gens
 base:Un X.fs X.ex X.H₀ H X.s₀.heap s.heap
 loc:∃m,s.heap.Ns X.env.locals m/\∀(i:Nat) (x:Str) (v:V),X.N[i]?=some x->σ[i]?=some (some v)->Vis X.env.scope x->∃u,RelV v u/\Look X.env s.heap m x u
 cell:∀x c,X.env.cells.lookup x=some c->∃v,s.heap.IsCell c v
 free:H X.env.locals=none
 freeC:∀x c,X.env.cells.lookup x=some c->H c=none
 pin:∀p∈X.pn++pins,s.heap.get? p.1=some p.2/\H p.1=none/\p.1≠X.env.locals/\p.1∉X.fs/\∀v,p.2.data≠.cell v
 hok:HOk X.prog X.w H s.heap
 len:σ.length=X.N.length
section
variable {X:Cx} {pins:List (Addr×Obj)} {σ:List (Option V)} {H H':Hp} {s:Shared} {h':Heap}
theorem Cx.Ok.nofr (ok:X.Ok) {b:Addr} {o:Obj} (e:X.base.get? b=some o):b∉X.fs:=fun hb=>by
 have:=(ok.funs.mem hb).1;rw[e]at this;cases this
theorem Inv.bs (I:Inv X pins σ H s):∀b o,X.base.get? b=some o->s.heap.get? b=some o/\H b=none:=fun b o e =>
 ⟨I.base.keep b o (I.ok.bs b o e).1 (I.ok.bs b o e).2 (I.ok.nofr e) (I.ok.noex b o e),I.base.free b o (I.ok.bs b o e).1 (I.ok.bs b o e).2 (I.ok.noex b o e)⟩
theorem Inv.bk (I:Inv X pins σ H s):∀b o,X.base.get? b=some o->s.heap.get? b=some o:=fun b o e=>(I.bs b o e).1
theorem Inv.mod (I:Inv X pins σ H s):Mod X.K X.mg X.base:=I.ok.mod
theorem Inv.kIn (I:Inv X pins σ H s):X.K.In s.heap:=I.ok.mod.kin.keeps I.bk
theorem Inv.lt (I:Inv X pins σ H s):X.env.locals<s.heap.objs.size:=let ⟨_,hn,_⟩:=I.loc;hn.lt
theorem Inv.sz (I:Inv X pins σ H s):X.s₀.heap.objs.size<=s.heap.objs.size:=Nat.le_trans I.ok.above (Nat.le_of_lt I.lt)
theorem Inv.nofs (I:Inv X pins σ H s) {a:Addr} (h:s.heap.objs.size<=a):a∉X.fs:=fun hb=>by
 obtain⟨_,o,ho,_⟩:=I.ok.funs.mem hb;exact absurd (Nat.lt_of_lt_of_le (Heap.lt_size ho) (Nat.le_trans I.sz h)) (Nat.lt_irrefl _)
theorem Inv.cne (I:Inv X pins σ H s):∀x c,X.env.cells.lookup x=some c->c≠X.env.locals:=fun x c e z=>by
 obtain⟨v,o,ho,hd⟩:=I.cell x c e;obtain⟨m,⟨o',es,ep,ho',hd',_⟩,_⟩:=I.loc;rw[z,ho']at ho;cases ho;rw[hd']at hd;cases hd
theorem Inv.funs (I:Inv X pins σ H s):s.heap.FunFrames X.base X.outer:=by
 have all:∀(l:List Env),(∀b∈frs l,b∈X.fs)->X.s₀.heap.FunFrames X.base l->s.heap.FunFrames X.base l:=by
  intro l;induction l with
  | nil=>intro _ _;trivial
  | cons env r ih =>
   intro hs hl;obtain⟨hk,⟨L,o,hf,hn,ho,hd⟩,hr⟩:=hl;have hL:L∈X.fs:=hs L (by unfold frs;rw[List.filterMap_cons,hf];exact List.mem_cons_self)
   obtain⟨sl,e⟩:=I.base.slot L o ho (I.ok.frf L hL) hL fun z=>I.ok.exfs L z hL;exact⟨hk,⟨L,_,hf,hn,e,hd⟩,ih (fun b hb=>hs b (by unfold frs;rw[List.filterMap_cons,hf];exact List.mem_cons_of_mem _ hb)) hr⟩
 exact all X.outer (fun _ hb=>hb) I.ok.funs
theorem Inv.stack (I:Inv X pins σ H s):s.heap.FunFrames X.base X.stack:=by
 rcases I.ok.stk with e|⟨e,hf⟩
 ·rw[e];exact I.funs
 ·rw[e];obtain⟨m,hn,_⟩:=I.loc;refine .cons (by rw[I.ok.kind];decide) hf hn ?_ I.funs
  exact Heap.get?_none_of_le (Nat.le_trans I.ok.bsz I.ok.above)
theorem Inv.stkSub (I:Inv X pins σ H s):∀b∈frs X.stack,b∈X.env.locals::X.fs:=fun b hb=>by
 rcases I.ok.stk with e|⟨e,hf⟩
 ·rw[e]at hb;exact List.mem_cons_of_mem _ hb
 ·rw[e]at hb;unfold frs at hb;rw[List.filterMap_cons,hf]at hb;exact hb
theorem Inv.stkFree (I:Inv X pins σ H s):∀b∈frs X.stack,H b=none:=fun b hb=>by
 rcases List.mem_cons.mp (I.stkSub b hb) with e|hb
 ·rw[e];exact I.free
 ·obtain⟨_,o,ho,_⟩:=I.ok.funs.mem hb;exact I.base.free b o ho (I.ok.frf b hb) fun z=>I.ok.exfs b z hb
theorem Inv.step {g':Array GenState} {t':Nat} {d':Drawn} {ch:List Addr} (I:Inv X pins σ H s)
  (hch:∀b∈ch,(b∈X.ex∨X.s₀.heap.objs.size<=b)/\b≠X.env.locals/\(∀x c,X.env.cells.lookup x=some c->c≠b)/\∀p∈X.pn++pins,p.1≠b)
  (keep:∀b o,b≠X.env.locals->b∉X.fs->b∉ch->s.heap.get? b=some o->H b=none->h'.get? b=some o)
  (slot:∀b o,b≠X.env.locals->b∈X.fs->b∉ch->s.heap.get? b=some o->H b=none->∃sl,h'.get? b=some { o with slots:=sl }) (free:∀b o,b∉ch->s.heap.get? b=some o->H b=none->H' b=none)
  (there:∀b o,b∉ch->s.heap.get? b=some o->∃o',h'.get? b=some o')
  (tups:∀b xs,H b=some (.tup xs)->H' b=some (.tup xs)) (frzs:∀b o u,H b=some (.frz o u)->H' b=some (.frz o u)) (tbls:∀b ps,H b=some (.tbl ps)->∃more,H' b=some (.tbl (ps++more)))
  (ns:∀m,s.heap.Ns X.env.locals m->h'.Ns X.env.locals m) (hok:HOk X.prog X.w H' h') (hg:AllBare g') :
  Inv X pins σ H' { s with heap:=h',gens:=g',drawn:=d',toks:=t' }:=by
 have neL:∀b o,X.s₀.heap.get? b=some o->b≠X.env.locals:=fun b o e=>Nat.ne_of_lt (Nat.lt_of_lt_of_le (Heap.lt_size e) I.ok.above);have neC:∀b o,X.s₀.heap.get? b=some o->b∉X.ex->b∉ch:=fun b o e hx hb=>by
  rcases(hch b hb).1 with z|z
  ·exact hx z
  ·exact absurd (Nat.lt_of_lt_of_le (Heap.lt_size e) z) (Nat.lt_irrefl _)
 have cellK:∀x c,X.env.cells.lookup x=some c->∀v,s.heap.IsCell c v->h'.IsCell c v:=fun x c e v ⟨o,ho,hd⟩=>by
  have nch:c∉ch:=fun z=>(hch c z).2.2.1 x c e rfl;by_cases hc:c∈X.fs
  ·obtain⟨sl,q⟩:=slot c o (I.cne x c e) hc nch ho (I.freeC x c e);exact⟨_,q,hd⟩
  ·exact⟨o,keep c o (I.cne x c e) hc nch ho (I.freeC x c e),hd⟩
 refine⟨I.ok,I.os,hg,⟨fun b o e n hb hx=>?_,fun b o e n hb hx=>?_,fun b o e n hx=>?_,fun b o e hx=>?_,fun b xs e=>tups b xs (I.base.tups b xs e),fun b o xs e=>frzs b o xs (I.base.frzs b o xs e),fun b ps e=>?_⟩,?_,fun x c e=>?_,?_,fun x c e=>?_,fun p hp=>?_,hok,I.len⟩
 ·exact keep b o (neL b o e) hb (neC b o e hx) (I.base.keep b o e n hb hx) (I.base.free b o e n hx)
 ·obtain⟨sl,e1⟩:=I.base.slot b o e n hb hx;obtain⟨sl',e2⟩:=slot b _ (neL b o e) hb (neC b o e hx) e1 (I.base.free b o e n hx);exact⟨sl',e2⟩
 ·obtain⟨o',e1⟩:=I.base.there b o e hx;exact free b o' (neC b o e hx) e1 (I.base.free b o e n hx)
 ·obtain⟨o',e1⟩:=I.base.there b o e hx;exact there b o' (neC b o e hx) e1
 ·obtain⟨m1,e1⟩:=I.base.tbls b ps e;obtain⟨m2,e2⟩:=tbls b _ e1;exact⟨m1++m2,by rw[e2,Array.append_assoc]⟩
 ·obtain⟨m,hn,hl⟩:=I.loc;refine⟨m,ns m hn,fun i x v e1 e2 e3=>?_⟩;obtain⟨u,r,l⟩:=hl i x v e1 e2 e3;refine⟨u,r,?_⟩;rcases l with l|⟨k,c,e,z⟩
  ·exact .inl l
  ·exact .inr ⟨k,c,e,cellK x c e _ z⟩
 ·obtain⟨v,z⟩:=I.cell x c e;exact⟨v,cellK x c e v z⟩
 ·obtain⟨m,⟨o,_,_,ho,_⟩,_⟩:=I.loc;exact free _ o (fun z=>(hch _ z).2.1 rfl) ho I.free
 ·obtain⟨v,o,ho,hd⟩:=I.cell x c e;exact free c o (fun z=>(hch c z).2.2.1 x c e rfl) ho (I.freeC x c e)
 ·obtain⟨e,n,ne,nf,d⟩:=I.pin p hp;have nch:p.1∉ch:=fun z=>(hch p.1 z).2.2.2 p hp rfl;exact⟨keep p.1 p.2 ne nf nch e n,free p.1 p.2 nch e n,ne,nf,d⟩
theorem Inv.un {t':Nat} (I:Inv X pins σ H s) (u:Un X.fs [] H H' s.heap h') (hok:HOk X.prog X.w H' h'):Inv X pins σ H' { s with heap:=h',toks:=t' }:=by
 obtain⟨m,⟨o,es,ep,ho,r⟩,_⟩:=id I.loc;obtain⟨sl,hL⟩:=u.any ho I.free (by simp)
 exact I.step (g':=s.gens) (d':=s.drawn) (ch:=[]) (fun _ z=>nomatch z) (fun b o _ hb _ e n=>u.keep b o e n hb (by simp)) (fun b o _ hb _ e n=>u.slot b o e n hb (by simp)) (fun b o _ e n=>u.free b o e n (by simp)) (fun b o _ e=>u.there b o e (by simp)) u.tups u.frzs u.tbls (fun m' hm=>by
  obtain⟨o',es',ep',ho',r'⟩:=hm;rw[ho]at ho';cases ho'
  exact⟨_,es',ep',hL,r'⟩) hok I.bare
theorem Inv.call {g':Array GenState} {t':Nat} {d':Drawn} {ch:List Addr} (I:Inv X pins σ H s) (u:Un (frs X.stack) ch H H' s.heap h') (hok:HOk X.prog X.w H' h') (hg:AllBare g')
  (hch:∀b∈ch,(b∈X.ex∨X.s₀.heap.objs.size<=b)/\b≠X.env.locals/\(∀x c,X.env.cells.lookup x=some c->c≠b)/\∀p∈X.pn++pins,p.1≠b) :
  Inv X pins σ H' { s with heap:=h',gens:=g',drawn:=d',toks:=t' }:=by
 obtain⟨m,⟨o,es,ep,ho,r⟩,_⟩:=id I.loc;obtain⟨sl,hL⟩:=u.any ho I.free fun z=>(hch _ z).2.1 rfl
 exact I.step (ch:=ch) hch (fun b o hL hb hc e n=>u.keep b o e n (fun z=>(List.mem_cons.mp (I.stkSub b z)).elim hL hb) hc) (fun b o _ _ hc e n=>u.any e n hc) (fun b o hc e n=>u.free b o e n hc) (fun b o hc e=>u.there b o e hc) u.tups u.frzs u.tbls (fun m' hm=>by
  obtain⟨o',es',ep',ho',r'⟩:=hm;rw[ho]at ho';cases ho'
  exact⟨_,es',ep',hL,r'⟩) hok hg
theorem Inv.turned {t':Nat} {it:Addr} (I:Inv X pins σ H s) (k:∀b o,b≠it->s.heap.get? b=some o->h'.get? b=some o) (hn:H it=none) (hL:it≠X.env.locals)
  (h1:it∈X.ex∨X.s₀.heap.objs.size<=it) (h2:∀x c,X.env.cells.lookup x=some c->c≠it) (h3:∀p∈X.pn++pins,p.1≠it):Inv X pins σ H { s with heap:=h',toks:=t' }:=by
 have nit:∀b u,H b=some u->b≠it:=fun b u e z=>by rw[z,hn]at e;cases e
 refine I.step (g':=s.gens) (d':=s.drawn) (ch:=[it]) (fun b hb=>?_) (fun b o _ _ hc e _=>k b o (fun z=>hc (by simp[z])) e) (fun b o _ _ hc e _=>⟨o.slots,k b o (fun z=>hc (by simp[z])) e⟩) (fun _ _ _ _ n=>n)
  (fun b o hc e=>⟨o,k b o (fun z=>hc (by simp[z])) e⟩) (fun _ _ e=>e) (fun _ _ _ e=>e) (fun b ps e=>⟨#[],by rw[e];simp⟩) (fun m hm=>?_) (fun b u e=>?_) I.bare
 ·have e:b=it:=by simpa using hb
  subst e;exact⟨h1,hL,h2,h3⟩
 ·obtain⟨o,es,ep,ho,r⟩:=hm;exact⟨o,es,ep,k _ o (Ne.symm hL) ho,r⟩
 ·refine(I.hok b u e).stay (fun c v hc q=>k c v ?_ q) (fun _ q=>q) fun _ _ q=>q;rcases hc with z|z
  ·rw[z];exact nit b u e
  ·exact nit c _ z
theorem Inv.tok (I:Inv X pins σ H s) (t:Nat):Inv X pins σ H { s with toks:=t }:=I.un (h':=s.heap) (t':=t) Un.refl I.hok
theorem Inv.kept {t':Nat} (I:Inv X pins σ H s) (k:∀b u,s.heap.get? b=some u->h'.get? b=some u):Inv X pins σ H { s with heap:=h',toks:=t' }:=I.un (Un.kept k) (I.hok.kept k)
theorem Inv.laid {a:Addr} {o:HO} {t':Nat} (I:Inv X pins σ H s) (k:∀b u,s.heap.get? b=some u->h'.get? b=some u) (hp:s.heap.objs.size<=a) (new:ObjOk X.prog X.w (upd H a o) h' a o) :
  Inv X pins σ (upd H a o) { s with heap:=h',toks:=t' }:=I.un (Un.laid k hp (I.hok.fresh hp)) (I.hok.laid k hp new)
theorem Inv.write {x e:Addr} {o:HO} {t':Nat} (I:Inv X pins σ H s) (mu:Mut (H x)) (he:e=x∨H e=some (.own x)) (k:∀b u,b≠e->s.heap.get? b=some u->h'.get? b=some u) (heo:∃u,h'.get? e=some u)
  (new:ObjOk X.prog X.w (upd H x o) h' x o):Inv X pins σ (upd H x o) { s with heap:=h',toks:=t' }:=I.un (Un.write mu he k heo) (I.hok.write mu he k heo new)
theorem Inv.weak {σ':List (Option V)} (I:Inv X pins σ H s) (hl:σ'.length=σ.length) (w:∀(i:Nat) v,σ'[i]?=some (some v)->σ[i]?=some (some v)):Inv X pins σ' H s :=
 ⟨I.ok,I.os,I.bare,I.base,let ⟨m,hn,hl'⟩:=I.loc;⟨m,hn,fun i x v e1 e2 e3=>hl' i x v e1 (w i v e2) e3⟩,I.cell,I.free,I.freeC,I.pin,I.hok,hl.trans I.len⟩
theorem Inv.pins_of {pins':List (Addr×Obj)} (I:Inv X pins σ H s) (h:∀p∈pins',s.heap.get? p.1=some p.2/\H p.1=none/\p.1≠X.env.locals/\p.1∉X.fs/\∀v,p.2.data≠.cell v):Inv X pins' σ H s :=
 ⟨I.ok,I.os,I.bare,I.base,I.loc,I.cell,I.free,I.freeC,fun p hp=>(List.mem_append.mp hp).elim (fun z=>I.pin p (List.mem_append_left _ z)) (h p),I.hok,I.len⟩
theorem nodup_ix {N:List Str} (hN:N.Nodup) {i j:Nat} {x:Str} (a:N[i]?=some x) (b:N[j]?=some x):i=j:=by
 obtain⟨h1,e1⟩:=List.getElem?_eq_some_iff.mp a;obtain⟨h2,e2⟩:=List.getElem?_eq_some_iff.mp b;exact(List.getElem_inj hN).mp (e1.trans e2.symm)
theorem store_ok2 {M:Model} {A:Around} {E:Value->Shared->Prop} {i:Nat} {x:Str} {v:V} {u:Value} {Q:Unit->Shared->Prop} (I:Inv X pins σ H s) (hN:X.N.Nodup) (hi:X.N[i]?=some x) (hx:Loc X.env.scope x) (r:RelV v u)
  (h:∀s',Inv X pins (σ.set i (some v)) H s'->(∃a,Heap.SameBut a s.heap s'.heap/\(a=X.env.locals∨X.env.cells.lookup x=some a))->Q () s') (hf:X.fn x=true∨X.env.scope.names.lookup x=some .local:=by first|exact .inl rfl|exact .inr rfl|assumption):wpAny M A (storeName X.env x u) Q E s:=by
 obtain⟨m,hn,hl⟩:=id I.loc;have hcls:(X.env.scope.kind == .class||(X.env.scope.kind == .module&&X.env.locals != X.env.globals))=false:=by rw[I.ok.kind];rfl
 have hiσ:i<σ.length:=by rw[I.len];exact(List.getElem?_eq_some_iff.mp hi).1
 have cne:=I.cne;have tracked:∀{a:Addr} {h':Heap},(∃o,s.heap.get? a=some o/\H a=none)->Heap.SameBut a s.heap h'->HOk X.prog X.w H h':=fun {a h'} ha hs b ob e=>by
  obtain⟨_,_,hfree⟩:=ha;refine(I.hok b ob e).stay (fun c w' hc q=>(hs.2 c ?_).trans q) (fun _ q=>q) fun _ _ q=>q;rintro rfl;rcases hc with rfl|hc
  ·rw[hfree]at e;cases e
  ·rw[hfree]at hc;cases hc
 rcases hx with hk|hk
 ·refine wpAny_storeName_local hk hn (fun h' hn' hs=>?_) hcls;obtain⟨oL,_,_,hoL,_⟩:=id hn;refine h _ ⟨I.ok,I.os,I.bare,⟨fun b o e n hb hx=>?_,fun b o e n hb hx=>?_,I.base.free,fun b o e hx=>?_,I.base.tups,I.base.frzs,I.base.tbls⟩,⟨_,hn',fun j y v' e1 e2 e3=>?_⟩,fun y c e=>?_,I.free,I.freeC,fun p hp=>?_,tracked ⟨oL,hoL,I.free⟩ hs,by simpa using I.len⟩ ⟨_,hs,.inl rfl⟩
  ·exact(hs.2 b (Nat.ne_of_lt (Nat.lt_of_lt_of_le (Heap.lt_size e) I.ok.above))).trans (I.base.keep b o e n hb hx)
  ·obtain⟨sl,e1⟩:=I.base.slot b o e n hb hx;exact⟨sl,(hs.2 b (Nat.ne_of_lt (Nat.lt_of_lt_of_le (Heap.lt_size e) I.ok.above))).trans e1⟩
  ·obtain⟨o',e1⟩:=I.base.there b o e hx;exact⟨o',(hs.2 b (Nat.ne_of_lt (Nat.lt_of_lt_of_le (Heap.lt_size e) I.ok.above))).trans e1⟩
  ·by_cases hj:j=i
   ·subst hj;rw[hi]at e1;cases e1;rw[List.getElem?_set_self hiσ]at e2;cases e2;exact⟨u,r,.inl ⟨hk,by simp⟩⟩
   ·rw[List.getElem?_set_ne (Ne.symm hj)]at e2;obtain⟨u',r',q⟩:=hl j y v' e1 e2 e3;refine⟨u',r',?_⟩;rcases q with⟨k,e⟩|⟨k,c,e,z⟩
    ·refine .inl ⟨k,?_⟩;have:y≠x:=fun e=>hj (nodup_ix hN e1 (e ▸ hi));simp[this,e]
    ·exact .inr ⟨k,c,e,z.sameBut hs (cne y c e)⟩
  ·obtain⟨w',z⟩:=I.cell y c e;exact⟨w',z.sameBut hs (cne y c e)⟩
  ·obtain⟨e,n,ne,nf,d⟩:=I.pin p hp;exact⟨(hs.2 p.1 ne).trans e,n,ne,nf,d⟩
 ·have hfn:X.fn x=true:=by
   rcases hf with z|z
   ·exact z
   ·rw[z]at hk;cases hk
  obtain⟨c,hc⟩:=I.ok.has x (.inl hk);obtain⟨w',z⟩:=I.cell x c hc;refine wpAny_storeName_cell I.ok.kind hk hc z (fun h' hc' hs=>?_);obtain⟨oc,hoc,hocd⟩:=id z;refine h { s with heap:=h' } ⟨I.ok,I.os,I.bare,⟨fun b o e n hb hx=>?_,fun b o e n hb hx=>?_,I.base.free,fun b o e hx=>?_,I.base.tups,I.base.frzs,I.base.tbls⟩,⟨m,hn.sameBut hs (Ne.symm (cne x c hc)),fun j y v' e1 e2 e3=>?_⟩,fun y c' e=>?_,I.free,I.freeC,fun p hp=>?_,tracked ⟨oc,hoc,I.freeC x c hc⟩ hs,by simpa using I.len⟩ ⟨c,hs,.inr hc⟩
  ·exact(hs.2 b (Nat.ne_of_lt (Nat.lt_of_lt_of_le (Heap.lt_size e) (I.ok.cab x c hfn hc)))).trans (I.base.keep b o e n hb hx)
  ·obtain⟨sl,e1⟩:=I.base.slot b o e n hb hx;exact⟨sl,(hs.2 b (Nat.ne_of_lt (Nat.lt_of_lt_of_le (Heap.lt_size e) (I.ok.cab x c hfn hc)))).trans e1⟩
  ·obtain⟨o',e1⟩:=I.base.there b o e hx;exact⟨o',(hs.2 b (Nat.ne_of_lt (Nat.lt_of_lt_of_le (Heap.lt_size e) (I.ok.cab x c hfn hc)))).trans e1⟩
  ·by_cases hj:j=i
   ·subst hj;rw[hi]at e1;cases e1;rw[List.getElem?_set_self hiσ]at e2;cases e2;exact⟨u,r,.inr ⟨.inl hk,c,hc,hc'⟩⟩
   ·rw[List.getElem?_set_ne (Ne.symm hj)]at e2;obtain⟨u',r',q⟩:=hl j y v' e1 e2 e3;refine⟨u',r',?_⟩;rcases q with q|⟨k,c',e,z'⟩
    ·exact .inl q
    ·refine .inr ⟨k,c',e,z'.sameBut hs ?_⟩;rintro rfl;exact hj (nodup_ix hN e1 (I.ok.inj _ _ _ e hc ▸ hi))
  ·by_cases hcc:c'=c
   ·subst hcc;exact⟨_,hc'⟩
   ·obtain⟨w2,z2⟩:=I.cell y c' e;exact⟨w2,z2.sameBut hs hcc⟩
  ·obtain⟨e,n,ne,nf,d⟩:=I.pin p hp;refine⟨(hs.2 p.1 ?_).trans e,n,ne,nf,d⟩;intro q;rw[q,hoc]at e;have q':oc=p.2:=Option.some.inj e;exact d w' (by rw[← q'];exact hocd)
theorem store_ok {M:Model} {A:Around} {E:Value->Shared->Prop} {i:Nat} {x:Str} {v:V} {u:Value} {Q:Unit->Shared->Prop} (I:Inv X pins σ H s) (hN:X.N.Nodup) (hi:X.N[i]?=some x) (hx:Loc X.env.scope x) (r:RelV v u)
  (h:∀s',Inv X pins (σ.set i (some v)) H s'->Q () s') (hf:X.fn x=true∨X.env.scope.names.lookup x=some .local:=by first|exact .inl rfl|exact .inr rfl|assumption):wpAny M A (storeName X.env x u) Q E s :=
 store_ok2 I hN hi hx r (fun s' I' _=>h s' I') hf
theorem Inv.call' {s':Shared} {ch:List Addr} (I:Inv X pins σ H s) (ho:s'.os=s.os) (u:Un (frs X.stack) ch H H' s.heap s'.heap) (hok:HOk X.prog X.w H' s'.heap) (hg:AllBare s'.gens)
  (hch:∀b∈ch,(b∈X.ex∨X.s₀.heap.objs.size<=b)/\b≠X.env.locals/\(∀x c,X.env.cells.lookup x=some c->c≠b)/\∀p∈X.pn++pins,p.1≠b):Inv X pins σ H' s':=by
 obtain⟨h',g',d',t',o'⟩:=s';have e:o'=s.os:=ho;subst e;exact I.call (g':=g') (t':=t') (d':=d') u hok hg hch
end
noncomputable abbrev XK:=Value->Option Addr->Hp->Prop
noncomputable abbrev St:=List (Option V)
noncomputable abbrev VK:=V->Hp->Prop
noncomputable abbrev TE:=St->Hp->VK->Prop
noncomputable abbrev TT:=St->Hp->(Bool->Hp->Prop)->Prop
noncomputable abbrev TA:=St->Hp->(List V->Hp->Prop)->Prop
structure Ends where
 nx:St->Hp->Prop
 rt:VK
 bk:St->Hp->Prop:=fun _ _=>False
 ct:St->Hp->Prop:=fun _ _=>False
noncomputable abbrev TS:=Ends->St->Hp->Prop
noncomputable def EP (X:Cx) (pins:List (Addr×Obj)) (σ:St) (Q:VK) (u:Value) (s':Shared):Prop:=∃v H',Inv X pins σ H' s'/\RelV v u/\Q v H'
noncomputable def TP (X:Cx) (pins:List (Addr×Obj)) (σ:St) (Q:Bool->Hp->Prop) (b:Bool) (s':Shared):Prop:=∃H',Inv X pins σ H' s'/\Q b H'
noncomputable def AP (X:Cx) (pins:List (Addr×Obj)) (σ:St) (Q:List V->Hp->Prop) (us:List Value) (s':Shared):Prop:=∃vs H',Inv X pins σ H' s'/\Vals vs us/\Q vs H'
noncomputable def SP (X:Cx) (pins:List (Addr×Obj)) (D:Ends) (f:Flow) (s':Shared):Prop :=
 match f with
 | .next=>∃σ' H',Inv X pins σ' H' s'/\D.nx σ' H'
 | .brk=>∃σ' H',Inv X pins σ' H' s'/\D.bk σ' H'
 | .cont=>∃σ' H',Inv X pins σ' H' s'/\D.ct σ' H'
 | .ret u=>∃v σ' H',Inv X pins σ' H' s'/\RelV v u/\D.rt v H'
noncomputable def PE (X:Cx) (e:Expr) (t:TE):Prop :=
 ∀(pins:List (Addr×Obj)) (s:Shared) (σ:St) (H:Hp) (Q:VK),Inv X pins σ H s->t σ H Q->wpAny (model X.prog X.w) X.A (eval e X.env) (EP X pins σ Q) X.xe s
noncomputable def PT (X:Cx) (e:Expr) (t:TT):Prop :=
 ∀(pins:List (Addr×Obj)) (s:Shared) (σ:St) (H:Hp) (Q:Bool->Hp->Prop),Inv X pins σ H s->t σ H Q->wpAny (model X.prog X.w) X.A (isTrue e X.env (eval e X.env)) (TP X pins σ Q) X.xe s
noncomputable def PW (X:Cx) (e:Expr) (t:TT):Prop :=
 ∀(whole:Sem Value) (pins:List (Addr×Obj)) (s:Shared) (σ:St) (H:Hp) (Q:Bool->Hp->Prop),Inv X pins σ H s->t σ H Q->wpAny (model X.prog X.w) X.A (isTrue e X.env whole) (TP X pins σ Q) X.xe s
theorem PW.pt {X:Cx} {e:Expr} {t:TT} (h:PW X e t):PT X e t:=h _
noncomputable def PA (X:Cx) (es:List Expr) (t:TA):Prop :=
 ∀(pos:Pos) (pins:List (Addr×Obj)) (s:Shared) (σ:St) (H:Hp) (Q:List V->Hp->Prop),Inv X pins σ H s->t σ H Q->wpAny (model X.prog X.w) X.A (spliced (backTo pos (starEach es X.env))) (AP X pins σ Q) X.xe s
noncomputable def PS (X:Cx) (st:Stmt) (t:TS):Prop :=
 ∀(pins:List (Addr×Obj)) (s:Shared) (σ:St) (H:Hp) (D:Ends),Inv X pins σ H s->t D σ H->wpAny (model X.prog X.w) X.A (exec st X.env) (SP X pins D) X.xe s
noncomputable def PSs (X:Cx) (st:List Stmt) (t:TS):Prop :=
 ∀(pins:List (Addr×Obj)) (s:Shared) (σ:St) (H:Hp) (D:Ends),Inv X pins σ H s->t D σ H->wpAny (model X.prog X.w) X.A (execs st X.env) (SP X pins D) X.xe s
theorem thn {α:Type} {t:Sem α} {Q Q':α->Shared->Prop} {M:Model} {A:Around} {E:Value->Shared->Prop} {s:Shared} (h:wpAny M A t Q E s) (hQ:∀a s,Q a s->Q' a s):wpAny M A t Q' E s:=wpAny_mono h hQ fun _ _ x=>x
end L2
namespace L2
open PySem PySem.Spec PyProof.Rows
section
variable {X:Cx}
noncomputable def tVar (i:Nat):TE:=fun σ H Q=>∃v,σ[i]?=some (some v)/\Q v H
noncomputable def tC (v:V):TE:=fun _ H Q=>Q v H
theorem pe_var {i:Nat} {x:Str} {pos:Pos} (hN:X.N[i]?=some x) (hv:Vis X.env.scope x) (hd:(x == ("__debug__":Str))=false:=by decide) (hcd:(x == ("__classdict__":Str))=false:=by decide):PE X (.Name x pos) (tVar i):=by
 intro pins s σ H Q I h;obtain⟨v,e,h⟩:=h;obtain⟨m,hn,hl⟩:=I.loc;obtain⟨u,r,l⟩:=hl i x v hN e hv;have fin:EP X pins σ Q u s:=⟨v,H,I,r,h⟩;rcases l with⟨hk,hm⟩|⟨hk,c,hc,hcell⟩
 ·exact wpAny_Name (wpAny_loadName_local I.ok.kind hk hn hm fin) hd
 ·rcases hk with hk|hk
  ·exact wpAny_Name (wpAny_loadName_cell I.ok.kind hk hc hcell fin) hd
  ·exact wpAny_Name (wpAny_loadName_free I.ok.kind hk hc hcell fin hcd) hd
theorem rQ {i j pos}:PE X (.Constant (.int i) j pos) (tC (.int i)):=fun _ _ _ H _ I h=>wpAny_Constant_int ⟨.int i,H,I.tok _,⟨_,rfl⟩,h⟩
theorem pe_bl {b j pos}:PE X (.Constant (.bool b) j pos) (tC (.bl b)):=fun _ _ _ H _ I h=>Constant_bool ⟨.bl b,H,I,rfl,h⟩
noncomputable def Gl (X:Cx) (x:Str):Prop:=X.env.kindOf x=some .globalImplicit
theorem ld_glob {E:Value->Shared->Prop} {pins:List (Addr×Obj)} {s:Shared} {σ:St} {H:Hp} {x:Str} {u:Value} {pos:Pos} {Q:Value->Shared->Prop} (I:Inv X pins σ H s) (hg:Gl X x) (hm:X.mg x=some u) (h:Q u s)
  (hd:(x == ("__debug__":Str))=false:=by decide):wpAny (model X.prog X.w) X.A (eval (.Name x pos) X.env) Q E s :=
 Calls.Name_function_global I.ok.kind hg (Calls.loadGlobal_global (by rw[I.ok.glob];exact I.mod.glob.keeps I.bk) hm h) hd
theorem ld_blt {E:Value->Shared->Prop} {pins:List (Addr×Obj)} {s:Shared} {σ:St} {H:Hp} {x:Str} {u:Value} {pos:Pos} {Q:Value->Shared->Prop} (I:Inv X pins σ H s) (hg:Gl X x) (hm:X.mg x=none) (hv:bootBuiltins x=some u) (h:Q u s)
  (hn:x≠"__name__":=by decide) (hd:(x == ("__debug__":Str))=false:=by decide):wpAny (model X.prog X.w) X.A (eval (.Name x pos) X.env) Q E s:=by
 obtain⟨mb,h1,h2⟩:=I.mod.blt;exact Calls.Name_function_global I.ok.kind hg (Calls.loadGlobal_builtin (by rw[I.ok.glob];exact I.mod.glob.keeps I.bk) hm (by rw[I.ok.blt];exact h1.keeps I.bk) ((h2 x hn).trans hv) h) hd
theorem pe_bltn {x:Str} {v:V} {u:Value} {pos:Pos} (hg:Gl X x) (hm:X.mg x=none) (hv:bootBuiltins x=some u) (r:RelV v u) (hn:x≠"__name__":=by decide) (hd:(x == ("__debug__":Str))=false:=by decide):PE X (.Name x pos) (tC v) :=
 fun _ _ _ H _ I h=>ld_blt I hg hm hv ⟨v,H,I,r,h⟩ hn hd
variable {a b:Expr} {ta tb:TE} {pos:Pos}
noncomputable def tB (t:TE):TT:=fun σ H Q=>t σ H fun x H1=>∃c,x=.bl c/\Q c H1
theorem pt_val {e:Expr} {t:TE} (h:PE X e t) (he:∀whole,isTrue e X.env whole=(do let v ← whole;standAt e.pos;holding [v] (truthy v)):=by intro _;rfl):PT X e (tB t):=by
 intro pins s σ H Q I hw;refine isTrue_plain (thn (h pins s σ H _ I hw) fun v s1 ⟨x,H1,I1,r1,q1⟩=>?_) (he _);obtain⟨d,rfl,q⟩:=q1;cases r1;exact wpAny_truthy_bool ⟨H1,I1,q⟩
variable {tA tB':TT} {rest:List Expr}
noncomputable def tAnd (t u:TT):TT:=fun σ H Q=>t σ H fun c H1=>if c=true then u σ H1 Q else Q false H1
noncomputable def tOr (t u:TT):TT:=fun σ H Q=>t σ H fun c H1=>if c=true then Q true H1 else u σ H1 Q
noncomputable def tNot (t:TT):TT:=fun σ H Q=>t σ H fun c H1=>Q (!c) H1
theorem pw_and1 (ha:PT X a tA):PW X (.BoolOp .And [a] pos) tA:=by
 intro wh pins s σ H Q I h;refine isTrue_and (thn (ha pins s σ H Q I h) fun c s1 e=>?_);cases c with
 | true=>exact isTrue_and_nil e
 | false=>exact e
theorem pw_or1 (ha:PT X a tA):PW X (.BoolOp .Or [a] pos) tA:=by
 intro wh pins s σ H Q I h;refine isTrue_or (thn (ha pins s σ H Q I h) fun c s1 e=>?_);cases c with
 | false=>exact isTrue_or_nil e
 | true=>exact e
theorem pw_and (ha:PT X a tA) (hb:PW X (.BoolOp .And (b::rest) pos) tB'):PW X (.BoolOp .And (a::b::rest) pos) (tAnd tA tB'):=by
 intro wh pins s σ H Q I h;refine isTrue_and (thn (ha pins s σ H _ I h) fun c s1 ⟨H1,I1,q1⟩=>?_);cases c with
 | true=>exact hb wh pins s1 σ H1 Q I1 q1
 | false=>exact⟨H1,I1,q1⟩
theorem pw_or (ha:PT X a tA) (hb:PW X (.BoolOp .Or (b::rest) pos) tB'):PW X (.BoolOp .Or (a::b::rest) pos) (tOr tA tB'):=by
 intro wh pins s σ H Q I h;refine isTrue_or (thn (ha pins s σ H _ I h) fun c s1 ⟨H1,I1,q1⟩=>?_);cases c with
 | true=>exact⟨H1,I1,q1⟩
 | false=>exact hb wh pins s1 σ H1 Q I1 q1
theorem pt_not (ha:PT X a tA):PT X (.UnaryOp .Not a pos) (tNot tA):=by
 intro pins s σ H Q I h;exact isTrue_not (ha pins s σ H (fun c H1=>Q (!c) H1) I h)
noncomputable def tAndV (ta tb:TE):TE:=fun σ H Q=>ta σ H fun x H1=>∃c,x=.bl c/\if c=true then tb σ H1 Q else Q (.bl false) H1
noncomputable def tOrV (ta tb:TE):TE:=fun σ H Q=>ta σ H fun x H1=>∃c,x=.bl c/\if c=true then Q (.bl true) H1 else tb σ H1 Q
noncomputable def tNotV (ta:TE):TE:=fun σ H Q=>ta σ H fun x H1=>∃c,x=.bl c/\Q (.bl (!c)) H1
theorem pe_one {op} {t:TE} (h:PE X a t):PE X (.BoolOp op [a] pos) t:=fun pins s σ H Q I hw=>BoolOp_one (h pins s σ H Q I hw)
theorem pe_and (ha:PE X a ta) (hb:PE X (.BoolOp .And (b::rest) pos) tb):PE X (.BoolOp .And (a::b::rest) pos) (tAndV ta tb):=by
 intro pins s σ H Q I h;refine BoolOp_and (thn (ha pins s σ H _ I h) fun v s1 ⟨x,H1,I1,r1,q1⟩=>?_);obtain⟨c,rfl,q1⟩:=q1;cases r1;refine wpAny_truthy_bool ?_;cases c with
 | true=>exact hb pins s1 σ H1 Q I1 q1
 | false=>exact⟨.bl false,H1,I1,rfl,q1⟩
theorem pe_or (ha:PE X a ta) (hb:PE X (.BoolOp .Or (b::rest) pos) tb):PE X (.BoolOp .Or (a::b::rest) pos) (tOrV ta tb):=by
 intro pins s σ H Q I h;refine BoolOp_or (thn (ha pins s σ H _ I h) fun v s1 ⟨x,H1,I1,r1,q1⟩=>?_);obtain⟨c,rfl,q1⟩:=q1;cases r1;refine wpAny_truthy_bool ?_;cases c with
 | false=>exact hb pins s1 σ H1 Q I1 q1
 | true=>exact⟨.bl true,H1,I1,rfl,q1⟩
theorem pe_not (ha:PE X a ta):PE X (.UnaryOp .Not a pos) (tNotV ta):=by
 intro pins s σ H Q I h;refine UnaryOp_ (thn (ha pins s σ H _ I h) fun v s1 ⟨x,H1,I1,r1,q1⟩=>?_);obtain⟨c,rfl,q1⟩:=q1;cases r1;exact not_of (wpAny_truthy_bool ⟨.bl (!c),H1,I1,rfl,q1⟩)
end
end L2
namespace L2
open PySem PySem.Spec PyProof.Rows
noncomputable def SqL (K:PySem.W.Frag) (H:Hp) (a:Addr) (xs:List V):Prop :=
 Rd H a (.lst xs) ∨
  ∃(o:Obj) (its:Array Value) (n:Nat),K.lookup a=some o/\o.cls=.type "list"/\o.dict=none/\o.data=.seq its n/\its.size<=sizeLine/\Vals xs its.toList
noncomputable def SqT (K:PySem.W.Frag) (H:Hp) (a:Addr) (xs:List V):Prop :=
 Rd H a (.tup xs) ∨
  ∃(o:Obj) (its:Array Value) (n:Nat),K.lookup a=some o/\o.cls=.type "tuple"/\o.data=.seq its n/\its.size<=sizeLine/\Vals xs its.toList
noncomputable def absV:Value->Option V
 | .none=>some .non
 | .bool b=>some (.bl b)
 | .int i _=>some (.int i)
 | .str x _=>some (.str x)
 | .bytes b _=>some (.byt b)
 | .float b _=>some (.flt b)
 | .ref a=>some (.ref a)
 | .type n=>some (.ty n)
 | _=>none
theorem RelV.abs {x:V} {u:Value} (r:RelV x u):absV u=some x:=by
 cases x with
 | non=>cases r;rfl
 | bl _=>cases r;rfl
 | int _=>obtain⟨t,rfl⟩:=r;rfl
 | str _=>obtain⟨t,rfl⟩:=r;rfl
 | byt _=>obtain⟨t,rfl⟩:=r;rfl
 | flt _=>obtain⟨t,rfl⟩:=r;rfl
 | ref _=>cases r;rfl
 | ty _=>cases r;rfl
theorem RelV.inj {x y:V} {u:Value} (r:RelV x u) (q:RelV y u):x=y:=Option.some.inj (r.abs.symm.trans q.abs)
theorem Vals.inj:∀{xs ys:List V} {us:List Value},Vals xs us->Vals ys us->xs=ys
 | _,_,_,.nil,.nil=>rfl
 | _,_,_,.cons r t,.cons r' t'=>by rw[r.inj r',Vals.inj t t']
section
variable {X:Cx} {pins:List (Addr×Obj)} {σ:St} {H:Hp} {s:Shared} {a:Addr} {xs ys:List V}
theorem Inv.list (I:Inv X pins σ H s) (h:SqL X.K H a xs):∃its:List Value,Vals xs its/\PlainL s.heap a its.toArray/\xs.length<=sizeLine:=by
 rcases h with h|⟨o,its,n,hk,hc,hd,hs,hz,r⟩
 ·obtain⟨z,its,n,r,e⟩:=h.ok I.hok;exact⟨its,r,⟨_,n,e,rfl,rfl,rfl⟩,z⟩
 ·refine⟨its.toList,r,⟨o,n,I.kIn a o hk,hc,hd,by simpa using hs⟩,?_⟩
  have e:=r.length;simp only[Array.length_toList]at e;omega
theorem Inv.tuple (I:Inv X pins σ H s) (h:SqT X.K H a xs):∃its:List Value,Vals xs its/\IsTup s.heap a its.toArray/\xs.length<=sizeLine:=by
 rcases h with h|⟨o,its,n,hk,hc,hs,hz,r⟩
 ·obtain⟨z,its,r,p⟩:=h.ok I.hok;exact⟨its,r,p,z⟩
 ·refine⟨its.toList,r,⟨o,I.kIn a o hk,hc,n,by simpa using hs⟩,?_⟩
  have e:=r.length;simp only[Array.length_toList]at e;omega
theorem Inv.list_inj (I:Inv X pins σ H s) (h:SqL X.K H a xs) (h':SqL X.K H a ys):xs=ys:=by
 obtain⟨its,r,⟨o,n,e,_,_,d⟩,_⟩:=I.list h;obtain⟨its',r',⟨o',n',e',_,_,d'⟩,_⟩:=I.list h';rw[e]at e';cases e';rw[d]at d';injection d' with d1 _;have:its=its':=by simpa using congrArg Array.toList d1
 subst this;exact r.inj r'
theorem Inv.tuple_inj (I:Inv X pins σ H s) (h:SqT X.K H a xs) (h':SqT X.K H a ys):xs=ys:=by
 obtain⟨its,r,⟨o,e,_,n,d⟩,_⟩:=I.tuple h;obtain⟨its',r',⟨o',e',_,n',d'⟩,_⟩:=I.tuple h';rw[e]at e';cases e';rw[d]at d';injection d' with d1 _;have:its=its':=by simpa using congrArg Array.toList d1
 subst this;exact r.inj r'
end
noncomputable abbrev Cx.wish (X:Cx) (E:Value->Shared->Prop):Cx:={ X with xe:=E }
noncomputable abbrev Cx.nox (X:Cx):Cx:=X.wish fun _ _=>False
theorem Cx.Ok.wish {X:Cx} (ok:X.Ok) (E:Value->Shared->Prop):(X.wish E).Ok :=
 ⟨ok.mod,ok.kind,ok.glob,ok.blt,ok.above,ok.inj,ok.has,ok.cab,ok.hd,ok.frames,ok.stk,ok.exf,ok.bs,ok.bsz,ok.noex,ok.exfs,ok.funs,ok.frf⟩
theorem Cx.Ok.unwish {X:Cx} {E:Value->Shared->Prop} (ok:(X.wish E).Ok):X.Ok :=
 ⟨ok.mod,ok.kind,ok.glob,ok.blt,ok.above,ok.inj,ok.has,ok.cab,ok.hd,ok.frames,ok.stk,ok.exf,ok.bs,ok.bsz,ok.noex,ok.exfs,ok.funs,ok.frf⟩
section
variable {X:Cx} {pins:List (Addr×Obj)} {σ:St} {H:Hp} {s:Shared} {E:Value->Shared->Prop}
theorem Inv.wish (I:Inv X pins σ H s) (E:Value->Shared->Prop):Inv (X.wish E) pins σ H s:=⟨I.ok.wish E,I.os,I.bare,I.base,I.loc,I.cell,I.free,I.freeC,I.pin,I.hok,I.len⟩
theorem Inv.unwish (I:Inv (X.wish E) pins σ H s):Inv X pins σ H s:=⟨I.ok.unwish,I.os,I.bare,I.base,I.loc,I.cell,I.free,I.freeC,I.pin,I.hok,I.len⟩
theorem SP.unwish {D:Ends} {f:Flow} {s':Shared} (h:SP (X.wish E) pins D f s'):SP X pins D f s':=by
 cases f with
 | next=>obtain⟨σ',H',I,q⟩:=h;exact⟨σ',H',I.unwish,q⟩
 | brk=>obtain⟨σ',H',I,q⟩:=h;exact⟨σ',H',I.unwish,q⟩
 | cont=>obtain⟨σ',H',I,q⟩:=h;exact⟨σ',H',I.unwish,q⟩
 | ret u=>obtain⟨v,σ',H',I,r,q⟩:=h;exact⟨v,σ',H',I.unwish,r,q⟩
theorem PSs.nox {st:List Stmt} {t:TS} (h:PSs X.nox st t):PSs X st t:=fun pins s σ H D I hw =>
 wpAny_mono (h pins s σ H D (I.wish _) hw) (fun _ _ q=>q.unwish) fun _ _ z=>False.elim z
end
section
variable {X:Cx} {st:Stmt} {rest:List Stmt} {t u:TS} {e:Expr} {te:TE} {pos:Pos}
noncomputable def tNext:TS:=fun D σ H=>D.nx σ H
noncomputable def tSeq (t u:TS):TS:=fun D σ H=>t { D with nx:=u D } σ H
theorem pss_nil:PSs X [] tNext:=fun _ _ σ H _ I h=>wpAny_execs_nil ⟨σ,H,I,h⟩
theorem rX (h1:PS X st t) (h2:PSs X rest u):PSs X (st::rest) (tSeq t u):=by
 intro pins s σ H D I h;refine wpAny_execs_cons (thn (h1 pins s σ H { D with nx:=u D } I h) fun f s1 q=>?_);cases f with
 | next =>
  obtain⟨σ',H',I',q⟩:=q;exact h2 pins s1 σ' H' D I' q
 | ret v=>exact q
 | brk=>exact q
 | cont=>exact q
theorem rY (h1:PS X st t):PSs X [st] t:=by
 intro pins s σ H D I h;refine wpAny_execs_cons (thn (h1 pins s σ H D I h) fun f s1 q=>?_);cases f with
 | next=>exact wpAny_execs_nil q
 | ret v=>exact q
 | brk=>exact q
 | cont=>exact q
theorem Inv.quiet {pins:List (Addr×Obj)} {σ:St} {H:Hp} {s:Shared} (I:Inv X pins σ H s):interactive X.env=false:=by simp[interactive,I.ok.kind]
noncomputable def tDrop (te:TE):TS:=fun D σ H=>te σ H fun _ H1=>D.nx σ H1
theorem ps_expr (he:PE X e te) (hs:swapsWith e none pos.line X.env=pure false:=by rfl):PS X (.Expr e pos) (tDrop te):=by
 intro pins s σ H D I h;exact wpAny_Expr_any (thn (he pins s σ H _ I h) fun v s1 ⟨x,H1,I1,r1,q1⟩=>⟨σ,H1,I1,q1⟩) I.quiet hs
noncomputable def tRet (te:TE):TS:=fun D σ H=>te σ H D.rt
theorem ps_ret (he:PE X e te):PS X (.Return (some e) pos) (tRet te):=by
 intro pins s σ H D I h;exact wpAny_Return_some (thn (he pins s σ H _ I h) fun v s1 ⟨x,H1,I1,r1,q1⟩=>⟨x,σ,H1,I1,r1,q1⟩)
noncomputable def tIfS (c:TT) (t u:TS):TS:=fun D σ H=>c σ H fun b H1=>if b=true then t D σ H1 else u D σ H1
theorem ps_if {c:Expr} {a b:List Stmt} {tc:TT} (hc:PT X c tc) (ha:PSs X a t) (hb:PSs X b u):PS X (.If c a b pos) (tIfS tc t u):=by
 intro pins s σ H D I h;refine wpAny_If (thn (hc pins s σ H _ I h) fun d s1 ⟨H1,I1,q1⟩=>?_);cases d with
 | true=>exact ha pins s1 σ H1 D I1 q1
 | false=>exact hb pins s1 σ H1 D I1 q1
end
noncomputable abbrev TG:=V->St->Hp->(St->Hp->Prop)->Prop
noncomputable abbrev TGs:=List V->St->Hp->(St->Hp->Prop)->Prop
noncomputable def PG (X:Cx) (target:Expr) (t:TG):Prop :=
 ∀(pins:List (Addr×Obj)) (s:Shared) (σ:St) (H:Hp) (v:V) (u:Value) (Q:St->Hp->Prop),Inv X pins σ H s->RelV v u->t v σ H Q ->
  wpAny (model X.prog X.w) X.A (assign target X.env u) (fun _ s'=>∃σ' H',Inv X pins σ' H' s'/\Q σ' H') X.xe s
noncomputable def PGs (X:Cx) (ts:List Expr) (t:TGs):Prop :=
 ∀(pins:List (Addr×Obj)) (s:Shared) (σ:St) (H:Hp) (vs:List V) (us:List Value) (Q:St->Hp->Prop),Inv X pins σ H s->Vals vs us->t vs σ H Q ->
  wpAny (model X.prog X.w) X.A (assignInOrder ((assignEach ts X.env).map (·.2)) us) (fun _ s'=>∃σ' H',Inv X pins σ' H' s'/\Q σ' H') X.xe s
noncomputable abbrev TSet:=V->V->V->Hp->(Hp->Prop)->Prop
noncomputable def PSet (X:Cx) (t:TSet):Prop :=
 ∀(pins:List (Addr×Obj)) (s:Shared) (σ:St) (H:Hp) (o i v:V) (ov iv u:Value) (Q:Hp->Prop),Inv X pins σ H s->RelV o ov->RelV i iv->RelV v u->t o i v H Q ->
  wpAny (model X.prog X.w) X.A (setItem ov iv u) (fun _ s'=>∃H',Inv X pins σ H' s'/\Q H') X.xe s
section
variable {X:Cx} {pos:Pos}
noncomputable def gName (i:Nat):TG:=fun v σ H Q=>Q (σ.set i (some v)) H
theorem pg_name {i:Nat} {x:Str} (hN:X.N.Nodup) (hi:X.N[i]?=some x) (hx:Loc X.env.scope x) (hf:X.fn x=true∨X.env.scope.names.lookup x=some .local:=by first|exact .inl rfl|exact .inr rfl|assumption):PG X (.Name x pos) (gName i):=by
 intro pins s σ H v u Q I r h;exact wpAny_assign_Name (store_ok I hN hi hx r (fun s' I'=>⟨_,H,I',h⟩) hf)
noncomputable def gNil:TGs:=fun vs σ H Q=>vs=[]/\Q σ H
noncomputable def gCons (t:TG) (u:TGs):TGs:=fun vs σ H Q=>∃v r,vs=v::r/\t v σ H fun σ' H'=>u r σ' H' Q
theorem pgs_nil:PGs X [] gNil:=by
 intro pins s σ H vs us Q I r h;obtain⟨e,h⟩:=h;subst e;cases r;exact assignInOrder_nil ⟨σ,H,I,h⟩
theorem pgs_cons {e:Expr} {es:List Expr} {t:TG} {u:TGs} (h1:PG X e t) (h2:PGs X es u)
  (hs:(assignEach (e::es) X.env).map (·.2)=assign e X.env::(assignEach es X.env).map (·.2):=by rfl):PGs X (e::es) (gCons t u):=by
 intro pins s σ H vs us Q I r h;obtain⟨v,vr,e1,h⟩:=h;subst e1;cases r with
 | cons r rr =>
  rw[hs];refine assignInOrder_cons (thn (h1 pins s σ H _ _ _ I r h) fun _ s1 ⟨σ1,H1,I1,q1⟩=>?_);exact h2 pins s1 σ1 H1 _ _ Q I1 rr q1
noncomputable def gTup (K:PySem.W.Frag) (n:Nat) (t:TGs):TG:=fun v σ H Q=>∃a xs,v=.ref a/\SqT K H a xs/\xs.length=n/\t xs σ H Q
theorem pg_tup {es:List Expr} {k:Nat} {t:TGs} {n:Nat} (hc:X.calm=true) (h:PGs X es t)
  (hn:(assignEach es X.env).length=n:=by rfl) (hst:(assignEach es X.env).findIdx? (·.1)=none:=by rfl):PG X (.Tuple es k pos) (gTup X.K n t):=by
 intro pins s σ H v u Q I r hw;obtain⟨a,xs,e1,hq,hl,hw⟩:=hw;subst e1;cases r;obtain⟨its,rv,ht,hz⟩:=I.tuple hq;refine assign_Tuple_tuple (I.ok.hd hc) ht (by simp[hn,← hl,rv.length]) hst fun h' hx=>?_
 have I1:Inv X pins σ H { s with heap:=h' }:=I.kept (t':=s.toks) fun b o e=>hx b o (Nat.ne_of_lt (Heap.lt_size e)) e;exact h pins _ σ H xs _ Q I1 (by simpa using rv) hw
noncomputable def gSub (to ti:TE) (t:TSet):TG:=fun v σ H Q=>to σ H fun o H1=>ti σ H1 fun i H2=>t o i v H2 fun H3=>Q σ H3
theorem pg_sub {o i:Expr} {to ti:TE} {t:TSet} (ho:PE X o to) (hi:PE X i ti) (hs:PSet X t)
  (ha:∀v,assign (.Subscript o i pos) X.env v=(do
   let ov ← holding [v] (eval o X.env)
   let iv ← holding [v,ov] (eval i X.env)
   standAt pos
   holding [v,ov,iv] (setItem ov iv v)
   release [v,ov,iv] []):=by intro _;rfl):PG X (.Subscript o i pos) (gSub to ti t):=by
 intro pins s σ H v u Q I r h;rw[ha];refine wpAny_bind (wpAny_holding (thn (ho pins s σ H _ I h) fun ov s1 ⟨x,H1,I1,r1,q1⟩=>?_));refine wpAny_bind (wpAny_holding (thn (hi pins s1 σ H1 _ I1 q1) fun iv s2 ⟨y,H2,I2,r2,q2⟩=>?_));refine wpAny_bind (wpAny_standAt (wpAny_bind (wpAny_holding (thn (hs pins s2 σ H2 x y v ov iv u _ I2 r1 r2 r q2) fun _ s3 ⟨H3,I3,q3⟩=>?_))));exact wpAny_release ⟨σ,H3,I3,q3⟩
noncomputable def tAsg (te:TE) (g:TG):TS:=fun D σ H=>te σ H fun x H1=>g x σ H1 D.nx
theorem ps_asg {tg e:Expr} {te:TE} {g:TG} (he:PE X e te) (hg:PG X tg g) (hs:swapsWithSole [tg] e pos.line X.env=pure false:=by rfl) (hw:swappedStores [tg] e X.env=pure none:=by rfl)
  (h1:(assignEach [tg] X.env).map (·.2)=[assign tg X.env]:=by rfl):PS X (.Assign [tg] e pos) (tAsg te g):=by
 intro pins s σ H D I h;refine wpAny_Assign_stores (thn (he pins s σ H _ I h) fun v s1 ⟨x,H1,I1,r1,q1⟩=>?_) hs hw;rw[h1];exact thn (hg pins s1 σ H1 x v _ I1 r1 q1) fun _ s2 q=>q
end
structure It where
 go:Nat->Hp->Prop
 yld:Nat->Hp->V->Hp->Prop
 stop:Nat->Hp->Prop
noncomputable def FpOk (X:Cx) (pins:List (Addr×Obj)) (H:Hp) (b:Addr):Prop :=
 H b=none/\b≠X.env.locals/\b∉X.fs/\(b∈X.ex∨X.s₀.heap.objs.size<=b)/\(∀x c,X.env.cells.lookup x=some c->c≠b)/\∀p∈X.pn++pins,p.1≠b
theorem Inv.fpOk {X:Cx} {pins:List (Addr×Obj)} {σ:St} {H H':Hp} {s:Shared} {b:Addr} (I:Inv X pins σ H s) (hb:s.heap.objs.size<=b) (hn:H' b=none):FpOk X pins H' b:=by
 refine⟨hn,Nat.ne_of_gt (Nat.lt_of_lt_of_le I.lt hb),I.nofs hb,.inr (Nat.le_trans I.sz hb),fun x c e z=>?_,fun p hp z=>?_⟩
 ·obtain⟨v,q⟩:=I.cell x c e;exact absurd (Nat.lt_of_lt_of_le q.lt (by rw[z];exact hb)) (Nat.lt_irrefl _)
 ·exact absurd (Nat.lt_of_lt_of_le (Heap.lt_size (I.pin p hp).1) (by rw[z];exact hb)) (Nat.lt_irrefl _)
structure Turn (P:Program) (w:World) (K:PySem.W.Frag) (tg:Expr) (J:It) (fp:List Addr) (it:Addr) (tn:Nat->Heap->Prop):Prop where
 mem:it∈fp
 obj:∀i h,tn i h->∀b∈fp,∃o,h.get? b=some o/\∀v,o.data≠.cell v
 keep:∀i h h',tn i h->(∀b∈fp,∀o,h.get? b=some o->h'.get? b=some o)->tn i h'
 item:∀(X:Cx),X.prog=P->X.w=w->X.K=K->X.calm=true->∀(i:Nat) (pins:List (Addr×Obj)) (s:Shared) (σ:St) (H:Hp) (E:Value->Shared->Prop),Inv X pins σ H s->(∀b∈fp,FpOk X pins H b)->tn i s.heap->J.go i H ->
  wpAny (model P w) X.A (pyNext (.ref it)) (fun r s1=>∃u,r=some u /\
   wpAny (model P w) X.A (letOwnedTupleGo tg (.ref it) u) (fun _ s2=>∃x H',Inv X pins σ H' s2/\RelV x u/\J.yld i H x H'/\tn (i+1) s2.heap/\∀b∈fp,H' b=none) E s1) E s
 done:∀(X:Cx),X.prog=P->X.w=w->X.K=K->X.calm=true->∀(i:Nat) (pins:List (Addr×Obj)) (s:Shared) (σ:St) (H:Hp) (E:Value->Shared->Prop),Inv X pins σ H s->(∀b∈fp,FpOk X pins H b)->tn i s.heap->J.stop i H ->
  wpAny (model P w) X.A (pyNext (.ref it)) (fun r s1=>r=none/\Inv X pins σ H s1) E s
 self:∀(A:Around) (i:Nat) (s:Shared) (Q:Value->Shared->Prop) (E:Value->Shared->Prop),tn i s.heap->Q (.ref it) s->wpAny (model P w) A (pyIter (.ref it)) Q E s
noncomputable abbrev TI:=St->Hp->(It->Hp->Prop)->Prop
noncomputable def PIE (X:Cx) (pins:List (Addr×Obj)) (σ:St) (tg:Expr) (R:It->Hp->Prop) (itv:Value) (s2:Shared):Prop :=
 ∃(it:Addr) (fp:List Addr) (tn:Nat->Heap->Prop) (J:It) (H':Hp),itv=.ref it/\Inv X pins σ H' s2/\Turn X.prog X.w X.K tg J fp it tn/\tn 0 s2.heap/\(∀b∈fp,FpOk X pins H' b)/\R J H'
noncomputable def PI (X:Cx) (tg iter:Expr) (wi:TI):Prop :=
 ∀(pins:List (Addr×Obj)) (s:Shared) (σ:St) (H:Hp) (R:It->Hp->Prop),Inv X pins σ H s->wi σ H R ->
  wpAny (model X.prog X.w) X.A (eval iter X.env) (fun v s1=>wpAny (model X.prog X.w) X.A (pyIter v) (PIE X pins σ tg R) X.xe s1) X.xe s
theorem go_of {M : Model} {A : Around} {E : Value → Shared → Prop} {s : Shared} {tg : Expr} {it : Addr} {u : Value} {o : Obj} {n : String} {vs : Array Value} {Q : Unit → Shared → Prop} (ho : s.heap.get? it = some o) (hc : o.cls = .type n) (hd : o.data = .fields vs)
    (hn : ["enumerate", "zip", "dict_itemiterator", "dict_reverseitemiterator", "odict_iterator", "itertools.zip_longest", "itertools.pairwise"].contains n = false) (hQ : Q () s) : wpAny M A (letOwnedTupleGo tg (.ref it) u) Q E s := by
  unfold letOwnedTupleGo;cases tg <;> first
    | exact wpAny_pure hQ
    | (cases u <;> first
        | exact wpAny_pure hQ
        | (refine wpAny_bind (wpAny_load ho ?_)
           rw [hc, hd];show wpAny M A (if (["enumerate", "zip", "dict_itemiterator", "dict_reverseitemiterator", "odict_iterator", "itertools.zip_longest", "itertools.pairwise"].contains n && vs[0]? == some (rawInt _)) = true then _ else _) Q E s;rw [if_neg (by intro h; rw [hn, Bool.false_and] at h; cases h)]
           exact wpAny_pure hQ))
noncomputable def Itl (K:PySem.W.Frag) (a:Addr):It :=
 ⟨fun i H=>∃xs x,SqL K H a xs/\xs[i]?=some x,fun i H x H'=>H'=H/\∀xs,SqL K H a xs->xs[i]?=some x,fun i H=>∃xs,SqL K H a xs/\xs.length<=i⟩
noncomputable def Itt (K:PySem.W.Frag) (a:Addr):It :=
 ⟨fun i H=>∃xs x,SqT K H a xs/\xs[i]?=some x,fun i H x H'=>H'=H/\∀xs,SqT K H a xs->xs[i]?=some x,fun i H=>∃xs,SqT K H a xs/\xs.length<=i⟩
noncomputable def Itr (lo:Int) (n:Nat):It:=⟨fun i _=>i<n,fun i H x H'=>H'=H/\x=.int (lo+i),fun i _=>n<=i⟩
theorem turn_list {P:Program} {w:World} {K:PySem.W.Frag} {tg:Expr} (a it:Addr):Turn P w K tg (Itl K a) [it] it (fun i h=>h.IsListIter it a i) where
 mem:=by simp
 obj:=fun i h st b hb=>by
  have e:b=it:=by simpa using hb
  subst e;obtain⟨o,e,c,d⟩:=st;exact⟨o,e,fun v z=>by rw[d]at z;cases z⟩
 keep:=fun i h h' st k=>st.at fun o e=>k it (by simp) o e
 item:=by
  intro X hP hw hK hc i pins s σ H E I hf st hg;subst hP hw hK;obtain⟨xs,x,hq,hx⟩:=hg;obtain⟨its,rv,p,hz⟩:=I.list hq;obtain⟨u,hu,ru⟩:=rv.get hx;obtain⟨f0,f1,f2,f3,f4,f5⟩:=hf it (by simp)
  refine wpAny_pyNext_list_item st p.isList (x:=u) (by simpa using hu) fun h' st' sb=>?_
  have I1:Inv X pins σ H { s with heap:=h' }:=I.turned (t':=s.toks) (fun b o hb e=>(sb.2 b hb).trans e) f0 f1 f3 f4 f5;obtain⟨o,e,c,d⟩:=id st';exact⟨u,rfl,go_of (s:={ s with heap:=h' }) e c d (by decide) ⟨x,H,I1,ru,⟨rfl,fun ys hy=>by rw[I.list_inj hy hq];exact hx⟩,st',fun b hb=>(hf b hb).1⟩⟩
 done:=by
  intro X hP hw hK hc i pins s σ H E I hf st hg;subst hP hw hK;obtain⟨xs,hq,hx⟩:=hg;obtain⟨its,rv,p,hz⟩:=I.list hq;obtain⟨f0,f1,f2,f3,f4,f5⟩:=hf it (by simp)
  have hl:=rv.length;exact wpAny_pyNext_list_end (I.ok.hd hc) st p.isList (by simp;omega) fun h' eb=>⟨rfl,I.turned (t':=s.toks) (fun b o hb e=>eb b o hb e) f0 f1 f3 f4 f5⟩
 self:=fun _ _ _ _ _ st h=>wpAny_pyIter_listiter st h
theorem turn_tuple {P:Program} {w:World} {K:PySem.W.Frag} {tg:Expr} (a it:Addr):Turn P w K tg (Itt K a) [it] it (fun i h=>h.IsTupleIter it a i) where
 mem:=by simp
 obj:=fun i h st b hb=>by
  have e:b=it:=by simpa using hb
  subst e;obtain⟨o,e,c,d⟩:=st;exact⟨o,e,fun v z=>by rw[d]at z;cases z⟩
 keep:=fun i h h' st k=>st.at fun o e=>k it (by simp) o e
 item:=by
  intro X hP hw hK hc i pins s σ H E I hf st hg;subst hP hw hK;obtain⟨xs,x,hq,hx⟩:=hg;obtain⟨its,rv,p,hz⟩:=I.tuple hq;obtain⟨u,hu,ru⟩:=rv.get hx;obtain⟨f0,f1,f2,f3,f4,f5⟩:=hf it (by simp)
  refine wpAny_pyNext_tuple_item st (show s.heap.IsTuple a its.toArray from p) (x:=u) (by simpa using hu) fun h' st' sb=>?_
  have I1:Inv X pins σ H { s with heap:=h' }:=I.turned (t':=s.toks) (fun b o hb e=>(sb.2 b hb).trans e) f0 f1 f3 f4 f5;obtain⟨o,e,c,d⟩:=id st';exact⟨u,rfl,go_of (s:={ s with heap:=h' }) e c d (by decide) ⟨x,H,I1,ru,⟨rfl,fun ys hy=>by rw[I.tuple_inj hy hq];exact hx⟩,st',fun b hb=>(hf b hb).1⟩⟩
 done:=by
  intro X hP hw hK hc i pins s σ H E I hf st hg;subst hP hw hK;obtain⟨xs,hq,hx⟩:=hg;obtain⟨its,rv,p,hz⟩:=I.tuple hq;obtain⟨f0,f1,f2,f3,f4,f5⟩:=hf it (by simp)
  have hl:=rv.length;exact wpAny_pyNext_tuple_end (I.ok.hd hc) st (show s.heap.IsTuple a its.toArray from p) (by simp;omega) fun h' eb=>⟨rfl,I.turned (t':=s.toks) (fun b o hb e=>eb b o hb e) f0 f1 f3 f4 f5⟩
 self:=fun _ _ _ _ _ st h=>wpAny_pyIter_tupleiter st h
theorem turn_range {P:Program} {w:World} {K:PySem.W.Frag} {tg:Expr} (it:Addr) (lo:Int) (n:Nat):Turn P w K tg (Itr lo n) [it] it (fun i h=>IsRangeIter h it (lo+(i:Nat)*1) ((n:Int)-(i:Nat)) 1) where
 mem:=by simp
 obj:=fun i h st b hb=>by
  have e:b=it:=by simpa using hb
  subst e
  exact⟨_,st,fun v z=>by
   have z':Data.fields _=Data.cell v:=z
   cases z'⟩
 keep:=fun i h h' st k=>k it (by simp) _ st
 item:=by
  intro X hP hw hK hc i pins s σ H E I hf st hg;subst hP hw hK;obtain⟨f0,f1,f2,f3,f4,f5⟩:=hf it (by simp)
  have W:=Walks.range (prog:=X.prog) (w:=X.w) (I.ok.hd hc) it lo 1 n;refine W.item i s _ _ hg st fun v h' tk hv st' kk=>?_;obtain⟨t,rfl⟩:=hv;have I1:Inv X pins σ H { s with heap:=h',toks:=tk }:=I.turned (fun b o hb e=>kk b o (by simpa using hb) e) f0 f1 f3 f4 f5
  refine⟨_,rfl,go_of (s:={ s with heap:=h',toks:=tk }) (n:="range_iterator") st' rfl rfl (by decide) ⟨.int (lo+i),H,I1,⟨t,?_⟩,⟨rfl,rfl⟩,st',fun b hb=>(hf b hb).1⟩⟩
  rw[Int.mul_one]
 done:=by
  intro X hP hw hK hc i pins s σ H E I hf st hg;subst hP hw hK;obtain⟨f0,f1,f2,f3,f4,f5⟩:=hf it (by simp)
  exact wpAny_pyNext_range_end (I.ok.hd hc) st (by have:n<=i:=hg;omega) fun h' eb=>⟨rfl,I.turned (t':=s.toks) (fun b o hb e=>eb b o hb e) f0 f1 f3 f4 f5⟩
 self:=fun _ _ _ _ _ st h=>wpAny_pyIter_rangeiter st h
end L2
namespace L2
open PySem PySem.Spec PyProof.Rows
section
variable {X:Cx} {tg:Expr}
noncomputable def iList (K:PySem.W.Frag) (tl:TE):TI:=fun σ H R=>tl σ H fun x H1=>∃a,x=.ref a/\(∃xs,SqL K H1 a xs)/\R (Itl K a) H1
noncomputable def iTup (K:PySem.W.Frag) (tl:TE):TI:=fun σ H R=>tl σ H fun x H1=>∃a,x=.ref a/\(∃xs,SqT K H1 a xs)/\R (Itt K a) H1
theorem pi_list {l:Expr} {tl:TE} (hl:PE X l tl):PI X tg l (iList X.K tl):=by
 intro pins s σ H R I h;refine thn (hl pins s σ H _ I h) fun v s1 ⟨x,H1,I1,r1,q1⟩=>?_;obtain⟨a,e,⟨xs,hq⟩,q⟩:=q1;subst e;cases r1;obtain⟨its,rv,p,hz⟩:=I1.list hq;refine wpAny_pyIter_list p.isList ?_;refine⟨s1.heap.objs.size,[s1.heap.objs.size],_,_,H1,rfl,I1.kept (t':=s1.toks) fun b o e=>Heap.get?_push_of_some _ e,turn_list a _,⟨_,Heap.get?_push_size _ rfl,rfl,rfl⟩,fun b hb=>?_,q⟩;have e:b=s1.heap.objs.size:=by simpa using hb
 subst e;exact I1.fpOk (Nat.le_refl _) (I1.hok.fresh (Nat.le_refl _))
theorem pi_tup {l:Expr} {tl:TE} (hl:PE X l tl):PI X tg l (iTup X.K tl):=by
 intro pins s σ H R I h;refine thn (hl pins s σ H _ I h) fun v s1 ⟨x,H1,I1,r1,q1⟩=>?_;obtain⟨a,e,⟨xs,hq⟩,q⟩:=q1;subst e;cases r1;obtain⟨its,rv,p,hz⟩:=I1.tuple hq;refine wpAny_pyIter_tuple (show s1.heap.IsTuple a its.toArray from p) ?_;refine⟨s1.heap.objs.size,[s1.heap.objs.size],_,_,H1,rfl,I1.kept (t':=s1.toks) fun b o e=>Heap.get?_push_of_some _ e,turn_tuple a _,⟨_,Heap.get?_push_size _ rfl,rfl,rfl⟩,fun b hb=>?_,q⟩;have e:b=s1.heap.objs.size:=by simpa using hb
 subst e;exact I1.fpOk (Nat.le_refl _) (I1.hok.fresh (Nat.le_refl _))
theorem range_it {pins:List (Addr×Obj)} {σ:St} {H:Hp} {s:Shared} {R:It->Hp->Prop} {E:Value->Shared->Prop} {lo hi:Int} {t u v:Tok} {tk:Nat} (I:Inv X pins σ H s) (h1:-(2 ^ 62)<=lo) (h2:lo<2 ^ 62) (h3:-(2 ^ 62)<=hi) (h4:hi<2 ^ 62)
  (q:R (Itr lo (hi-lo).toNat) H):wpAny (model X.prog X.w) X.A (pyIter (.ref s.heap.objs.size)) (PIE X pins σ tg R) E { s with heap:=s.heap.push { cls:=.type "range",data:=.fields #[.int lo t,.int hi u,.int 1 v] },toks:=tk }:=by
 refine wpAny_pyIter_range (IsRange.new ..) (small_one h1 h2 h3 h4) ?_;have I1:Inv X pins σ H { s with heap:=s.heap.push { cls:=.type "range",data:=.fields #[.int lo t,.int hi u,.int 1 v] },toks:=tk }:=I.kept fun b o e=>Heap.get?_push_of_some _ e
 refine⟨(s.heap.push { cls:=.type "range",data:=.fields #[.int lo t,.int hi u,.int 1 v] }).objs.size,[(s.heap.push { cls:=.type "range",data:=.fields #[.int lo t,.int hi u,.int 1 v] }).objs.size],_,_,H,rfl,
  I1.kept (t':=tk) fun b o e=>Heap.get?_push_of_some _ e,turn_range _ lo (hi-lo).toNat,?_,fun b hb=>?_,q⟩
 ·have e1:lo+((0:Nat):Int)*1=lo:=by simp
  have e2:(((hi-lo).toNat:Nat):Int)-((0:Nat):Int)=Builtin.Range.rangeSize lo hi 1:=by rw[rangeSize_one];split<;>omega
  show IsRangeIter _ _ (lo+((0:Nat):Int)*1) ((((hi-lo).toNat:Nat):Int)-((0:Nat):Int)) 1;rw[e1,e2];exact Heap.get?_push_size _ rfl
 ·have e:b=(s.heap.push { cls:=.type "range",data:=.fields #[.int lo t,.int hi u,.int 1 v] }).objs.size:=by simpa using hb
  subst e;exact I1.fpOk (Nat.le_refl _) (I1.hok.fresh (Nat.le_refl _))
noncomputable def iRng1 (ta:TA):TI:=fun σ H R=>ta σ H fun vs H1=>∃j:Int,vs=[.int j]/\-(2 ^ 62)<=j/\j<2 ^ 62/\R (Itr 0 j.toNat) H1
noncomputable def iRng2 (ta:TA):TI:=fun σ H R=>ta σ H fun vs H1=>∃i j:Int,vs=[.int i,.int j]/\(-(2 ^ 62)<=i/\i<2 ^ 62/\-(2 ^ 62)<=j/\j<2 ^ 62)/\R (Itr i (j-i).toNat) H1
theorem pi_range1 {a:Expr} {ta:TA} {p pos:Pos} (hg:Gl X "range") (hm:X.mg "range"=none) (ha:PA X [a] ta) (hs:starEach [a] X.env=[(false,eval a X.env)]:=by rfl):PI X tg (.Call (.Name "range" p) [a] [] pos) (iRng1 ta):=by
 intro pins s σ H R I h;refine Call_ (ld_blt I hg hm boot_range (PyProof.Rows.callWith_type1 (thn (ha pos pins s σ H _ I h) fun us s1 ⟨vs,H1,I1,r1,q1⟩=>?_) hs rfl));obtain⟨j,e,q1,q2,q⟩:=q1;subst e;cases r1 with
 | cons r rr =>
  cases rr;obtain⟨t,rfl⟩:=r;exact call_range_1 (range_it I1 (by omega) (by omega) q1 q2 (by simpa using q))
theorem pi_range2 {a b:Expr} {ta:TA} {p pos:Pos} (hg:Gl X "range") (hm:X.mg "range"=none) (ha:PA X [a,b] ta) (hs:starEach [a,b] X.env=[(false,eval a X.env),(false,eval b X.env)]:=by rfl) (hs2:starEach [b] X.env=[(false,eval b X.env)]:=by rfl) :
  PI X tg (.Call (.Name "range" p) [a,b] [] pos) (iRng2 ta):=by
 intro pins s σ H R I h;refine Call_ (ld_blt I hg hm boot_range (PyProof.Rows.callWith_type1 (thn (ha pos pins s σ H _ I h) fun us s1 ⟨vs,H1,I1,r1,q1⟩=>?_) (by rw[hs,hs2]) (by rw[hs2];rfl)))
 obtain⟨i,j,e,⟨q1,q2,q3,q4⟩,q⟩:=q1;subst e;cases r1 with
 | cons r rr =>
  cases rr with
  | cons r' rr =>
   cases rr;obtain⟨t,rfl⟩:=r;obtain⟨t',rfl⟩:=r';exact call_range_2 (range_it I1 q1 q2 q3 q4 q)
noncomputable def tFor (wi:TI) (g:TG) (tb:TS):TS:=fun D σ H=>wi σ H fun J H1=>∃W:Nat->Nat->St->Hp->Prop,(∃m,W 0 m σ H1)/\∀i m σ H,W i m σ H ->
 (J.stop i H/\D.nx σ H)∨(J.go i H/\∃N:St->Hp->Prop,(∀σ' H',N σ' H'->∃m',m'<m/\W (i+1) m' σ' H')/\∀x H',J.yld i H x H'->g x σ H' fun σ2 H2=>tb { D with nx:=N,ct:=N,bk:=D.nx } σ2 H2)
noncomputable def pinsAt (fp:List Addr) (h:Heap):List (Addr×Obj):=fp.filterMap fun b=>(h.get? b).map fun o=>(b,o)
theorem mem_pinsAt {fp:List Addr} {h:Heap} {b:Addr} {o:Obj} (hb:b∈fp) (e:h.get? b=some o):(b,o)∈pinsAt fp h:=List.mem_filterMap.mpr ⟨b,hb,by rw[e];rfl⟩
theorem of_pinsAt {fp:List Addr} {h:Heap} {p:Addr×Obj} (hp:p∈pinsAt fp h):p.1∈fp/\h.get? p.1=some p.2:=by
 obtain⟨b,hb,e⟩:=List.mem_filterMap.mp hp;cases q:h.get? b with
 | none=>rw[q]at e;cases e
 | some o =>
  rw[q]at e;have e':(b,o)=p:=Option.some.inj e;subst e';exact⟨hb,q⟩
theorem Inv.pinned {pins:List (Addr×Obj)} {σ:St} {H:Hp} {s:Shared} {fp:List Addr} (I:Inv X pins σ H s) (hf:∀b∈fp,FpOk X pins H b) (ho:∀b∈fp,∃o,s.heap.get? b=some o/\∀v,o.data≠.cell v):Inv X (pins++pinsAt fp s.heap) σ H s :=
 I.pins_of fun p hp=>(List.mem_append.mp hp).elim (fun z=>I.pin p (List.mem_append_right _ z)) fun z=>by
  obtain⟨hb,e⟩:=of_pinsAt z;obtain⟨f0,f1,f2,_⟩:=hf p.1 hb;obtain⟨o,e',d⟩:=ho p.1 hb;rw[e]at e';cases e';exact⟨e,f0,f1,f2,d⟩
theorem Inv.unpinned {pins pl:List (Addr×Obj)} {σ:St} {H:Hp} {s:Shared} (I:Inv X (pins++pl) σ H s):Inv X pins σ H s:=I.pins_of fun p hp=>I.pin p (List.mem_append_right _ (List.mem_append_left _ hp))
theorem ps_for {iter:Expr} {body:List Stmt} {wi:TI} {g:TG} {tb:TS} {pos:Pos} (hp:PassesOwn (model X.prog X.w) X.A X.env X.xe) (hc:X.calm=true) (hi:PI X tg iter wi) (hg:PG X tg g) (hb:PSs X body tb)
  (hs:∀x,foldedSetIterable iter X.env x=pure x:=by intro _;rfl):PS X (.For tg iter body [] pos) (tFor wi g tb):=by
 intro pins s σ H D I h;refine wpAny_For (thn (hi pins s σ H _ I h) fun v s1 h1=>thn h1 fun itv s2 h2=>?_) hs;obtain⟨it,fp,tn,J,H2,e,I2,T,st2,f2,W,⟨m0,w0⟩,turn⟩:=h2;subst e;have stat:∀{H':Hp},(∀b∈fp,H' b=none)->∀b∈fp,FpOk X pins H' b:=fun hn b hb=>⟨hn b hb,(f2 b hb).2⟩;refine codeAny_forLoop_any (fun n s'=>∃i σ' H',Inv X pins σ' H' s'/\tn i s'.heap/\(∀b∈fp,H' b=none)/\W i n σ' H') ?_ m0 ⟨0,σ,H2,I2,st2,fun b hb=>(f2 b hb).1,w0⟩;rintro n s3 ⟨i,σ3,H3,I3,st3,fr3,w3⟩;rcases turn i n σ3 H3 w3 with⟨stop,qn⟩|⟨go,N,hN,step⟩
 ·refine wpAny_passesOwn hp (thn (T.done X rfl rfl rfl hc i pins s3 σ3 H3 X.xe I3 (stat fr3) st3 stop) fun r s4 ⟨hr,I4⟩=>?_);subst hr;exact wpAny_execs_nil ⟨σ3,H3,I4,qn⟩
 ·refine wpAny_passesOwn hp (thn (T.item X rfl rfl rfl hc i pins s3 σ3 H3 X.xe I3 (stat fr3) st3 go) fun r s4 ⟨u,hr,h4⟩=>?_);subst hr;refine wpAny_passesOwn hp (thn h4 fun _ s5 ⟨x,H5,I5,r5,y5,st5,fr5⟩=>?_);have I5':=I5.pinned (stat fr5) (T.obj _ _ st5);refine wpAny_passesOwn hp (thn (hg _ s5 σ3 H5 x u _ I5' r5 (step x H5 y5)) fun _ s6 ⟨σ6,H6,I6,q6⟩=>?_);refine wpAny_passesOwn hp (thn (hb _ s6 σ6 H6 _ I6 q6) fun f s7 q7=>?_);have again:∀{σ7:St} {H7:Hp},Inv X (pins++pinsAt fp s5.heap) σ7 H7 s7->N σ7 H7->∃m,m<n/\∃i σ' H',Inv X pins σ' H' s7/\tn i s7.heap/\(∀b∈fp,H' b=none)/\W i m σ' H':=fun {σ7 H7} I7 n7=>by
   obtain⟨m',hm,w7⟩:=hN σ7 H7 n7;refine⟨m',hm,i+1,σ7,H7,I7.unpinned,T.keep _ _ _ st5 fun b hb o e=>(I7.pin (b,o) (List.mem_append_right _ (List.mem_append_right _ (mem_pinsAt hb e)))).1,fun b hb=>?_,w7⟩;obtain⟨o,e,d⟩:=T.obj _ _ st5 b hb;exact(I7.pin (b,o) (List.mem_append_right _ (List.mem_append_right _ (mem_pinsAt hb e)))).2.1
  cases f with
  | next=>obtain⟨σ7,H7,I7,n7⟩:=q7;exact again I7 n7
  | cont=>obtain⟨σ7,H7,I7,n7⟩:=q7;exact again I7 n7
  | brk=>obtain⟨σ7,H7,I7,q7⟩:=q7;exact⟨σ7,H7,I7.unpinned,q7⟩
  | ret v=>obtain⟨x7,σ7,H7,I7,r7,q7⟩:=q7;exact⟨x7,σ7,H7,I7.unpinned,r7,q7⟩
end
end L2
namespace L2
open PySem PySem.Spec PyProof.Rows
noncomputable abbrev R2:=V->V->Hp->VK->Prop
noncomputable def OpR (X:Cx) (f:Value->Value->Sem Value) (r:R2):Prop :=
 ∀(pins:List (Addr×Obj)) (s:Shared) (σ:St) (H:Hp) (x y:V) (v u:Value) (Q:VK),Inv X pins σ H s->RelV x v->RelV y u->r x y H Q ->
  wpAny (model X.prog X.w) X.A (f v u) (EP X pins σ Q) X.xe s
noncomputable def UnR (X:Cx) (f:Value->Sem Value) (r:V->Hp->VK->Prop):Prop :=
 ∀(pins:List (Addr×Obj)) (s:Shared) (σ:St) (H:Hp) (x:V) (v:Value) (Q:VK),Inv X pins σ H s->RelV x v->r x H Q ->
  wpAny (model X.prog X.w) X.A (f v) (EP X pins σ Q) X.xe s
noncomputable def CallR (X:Cx) (f:Value) (r:List V->Hp->VK->Prop):Prop :=
 ∀(pins:List (Addr×Obj)) (s:Shared) (σ:St) (H:Hp) (xs:List V) (us:List Value) (Q:VK),Inv X pins σ H s->Vals xs us->r xs H Q ->
  wpAny (model X.prog X.w) X.A (call f us) (EP X pins σ Q) X.xe s
noncomputable def tOp (r:R2) (ta tb:TE):TE:=fun σ H Q=>ta σ H fun x H1=>tb σ H1 fun y H2=>r x y H2 Q
noncomputable def tUn (r:V->Hp->VK->Prop) (ta:TE):TE:=fun σ H Q=>ta σ H fun x H1=>r x H1 Q
noncomputable def rI (C:Int->Int->Prop) (g:Int->Int->V):R2:=fun x y H Q=>∃i j,x=.int i/\y=.int j/\C i j/\Q (g i j) H
noncomputable def rI0 (g:Int->Int->V):R2:=fun x y H Q=>∃i j,x=.int i/\y=.int j/\Q (g i j) H
noncomputable def rU (g:Int->V):V->Hp->VK->Prop:=fun x H Q=>∃i,x=.int i/\Q (g i) H
section
variable {X:Cx} {a b c:Expr} {ta tb tc:TE} {pos:Pos}
theorem binT (ha:PE X a ta) (hb:PE X b tb) {pins:List (Addr×Obj)} {s:Shared} {σ:St} {H:Hp} {R:V->V->Hp->Prop} (I:Inv X pins σ H s)
  (h:ta σ H fun x H1=>tb σ H1 fun y H2=>R x y H2) {Q:Value->Shared->Prop} {f:Value->Value->Sem Value}
  (hf:∀v u s2 x y H2,Inv X pins σ H2 s2->RelV x v->RelV y u->R x y H2->wpAny (model X.prog X.w) X.A (f v u) Q X.xe s2) :
  wpAny (model X.prog X.w) X.A (eval a X.env) (fun v s₁=>wpAny (model X.prog X.w) X.A (eval b X.env) (fun u s₂=>wpAny (model X.prog X.w) X.A (f v u) Q X.xe s₂) X.xe s₁) X.xe s:=by
 refine thn (ha pins s σ H _ I h) fun v s1 ⟨x,H1,I1,r1,q1⟩=>?_;refine thn (hb pins s1 σ H1 _ I1 q1) fun u s2 ⟨y,H2,I2,r2,q2⟩=>?_;exact hf v u s2 x y H2 I2 r1 r2 q2
theorem pC {op:Operator} {r:R2} (ho:OpR X (binaryOp op) r) (ha:PE X a ta) (hb:PE X b tb):PE X (.BinOp a op b pos) (tOp r ta tb):=by
 intro pins s σ H Q I h;exact wpAny_BinOp (binT ha hb I h fun v u s2 x y H2 I2 rx ry q=>ho pins s2 σ H2 x y v u Q I2 rx ry q)
theorem pe_un {op:UnaryOp} {r:V->Hp->VK->Prop} (ho:UnR X (unaryOp op) r) (ha:PE X a ta):PE X (.UnaryOp op a pos) (tUn r ta):=by
 intro pins s σ H Q I h;exact UnaryOp_ (thn (ha pins s σ H _ I h) fun v s1 ⟨x,H1,I1,r1,q1⟩=>ho pins s1 σ H1 x v Q I1 r1 q1)
theorem opI {f:Value->Value->Sem Value} {C:Int->Int->Prop} {g:Int->Int->Int}
  (rule:∀(i j:Int) (t u:Tok) (s:Shared) (Q:Value->Shared->Prop) (E:Value->Shared->Prop),C i j->Q (.int (g i j) s.toks) { s with toks:=s.toks+1 }->wpAny (model X.prog X.w) X.A (f (.int i t) (.int j u)) Q E s) :
  OpR X f (rI C fun i j=>.int (g i j)):=by
 intro pins s σ H x y v u Q I rx ry h;obtain⟨i,j,rfl,rfl,hc,q⟩:=h;obtain⟨t,rfl⟩:=rx;obtain⟨t',rfl⟩:=ry;exact rule i j t t' s _ _ hc ⟨.int (g i j),H,I.tok _,⟨_,rfl⟩,q⟩
theorem opI0 {f:Value->Value->Sem Value} {g:Int->Int->Int}
  (rule:∀(i j:Int) (t u:Tok) (s:Shared) (Q:Value->Shared->Prop) (E:Value->Shared->Prop),Q (.int (g i j) s.toks) { s with toks:=s.toks+1 }->wpAny (model X.prog X.w) X.A (f (.int i t) (.int j u)) Q E s) :
  OpR X f (rI0 fun i j=>.int (g i j)):=by
 intro pins s σ H x y v u Q I rx ry h;obtain⟨i,j,rfl,rfl,q⟩:=h;obtain⟨t,rfl⟩:=rx;obtain⟨t',rfl⟩:=ry;exact rule i j t t' s _ _ ⟨.int (g i j),H,I.tok _,⟨_,rfl⟩,q⟩
theorem opB0 {f:Value->Value->Sem Value} {g:Int->Int->Bool}
  (rule:∀(i j:Int) (t u:Tok) (s:Shared) (Q:Value->Shared->Prop) (E:Value->Shared->Prop),Q (.bool (g i j)) s->wpAny (model X.prog X.w) X.A (f (.int i t) (.int j u)) Q E s) :
  OpR X f (rI0 fun i j=>.bl (g i j)):=by
 intro pins s σ H x y v u Q I rx ry h;obtain⟨i,j,rfl,rfl,q⟩:=h;obtain⟨t,rfl⟩:=rx;obtain⟨t',rfl⟩:=ry;exact rule i j t t' s _ _ ⟨.bl (g i j),H,I,rfl,q⟩
noncomputable def CDiv (i j:Int):Prop:=0<j/\j<1073741824
noncomputable def CPow (i j:Int):Prop:=0<=j/\j<=1000000/\i.natAbs<2 ^ 64
noncomputable def CMul (i j:Int):Prop:=(-(2 ^ 64)<i/\i<2 ^ 64)∨(-(2 ^ 64)<j/\j<2 ^ 64)
theorem CMul.ok {i j:Int} (h:CMul i j):IntMulOk i j:=by
 rcases h with⟨h1,h2⟩|⟨h1,h2⟩
 ·exact .of_left (intBits_le_64 h1 h2)
 ·exact .of_right (intBits_le_64 h1 h2)
theorem op_add:OpR X (binaryOp .Add) (rI0 fun i j=>.int (i+j)):=opI0 fun _ _ _ _ _ _ _ q=>add_int q
theorem op_sub:OpR X (binaryOp .Sub) (rI0 fun i j=>.int (i-j)):=opI0 fun _ _ _ _ _ _ _ q=>sub_int q
theorem op_mul:OpR X (binaryOp .Mult) (rI CMul fun i j=>.int (i*j)):=opI fun _ _ _ _ _ _ _ hc q=>mul_int q hc.ok
theorem op_fdiv:OpR X (binaryOp .FloorDiv) (rI CDiv fun i j=>.int (i / j)):=opI fun i j _ _ _ _ _ hc q=>by
 have h1:(0:Int)<j:=hc.1;have h2:j<1073741824:=hc.2;exact floordiv_int (by omega) (by rw[Int.fdiv_eq_ediv_of_nonneg i (by omega)];exact q) (.inl (PyProof.noPylong_small (by omega)))
theorem op_mod:OpR X (binaryOp .Mod) (rI (fun _ j=>0<j) fun i j=>.int (i % j)):=opI fun i j _ _ _ _ _ hc q=>by
 have h1:(0:Int)<j:=hc;exact mod_int' (by omega) (by rw[Int.fmod_eq_emod_of_nonneg i (by omega)];exact q)
theorem op_pow:OpR X (binaryOp .Pow) (rI CPow fun i j=>.int (i ^ j.toNat)):=opI fun _ _ _ _ _ _ _ hc q=>pow_int_small hc.1 hc.2.1 hc.2.2 q
theorem unI {f:Value->Sem Value} {g:Int->Int}
  (rule:∀(i:Int) (t:Tok) (s:Shared) (Q:Value->Shared->Prop) (E:Value->Shared->Prop),Q (.int (g i) s.toks) { s with toks:=s.toks+1 }->wpAny (model X.prog X.w) X.A (f (.int i t)) Q E s) :
  UnR X f (rU fun i=>.int (g i)):=by
 intro pins s σ H x v Q I rx h;obtain⟨i,rfl,q⟩:=h;obtain⟨t,rfl⟩:=rx;exact rule i t s _ _ ⟨.int (g i),H,I.tok _,⟨_,rfl⟩,q⟩
theorem un_neg:UnR X (unaryOp .USub) (rU fun i=>.int (-i)):=unI fun _ _ _ _ _ q=>neg_int q
end
noncomputable def scal:V->V->Bool
 | .non,.non=>true|.non,.int _=>true|.int _,.non=>true|.non,.bl _=>true|.bl _,.non=>true|.non,.str _=>true|.str _,.non=>true
 | .int _,.int _=>true|.bl _,.bl _=>true|.str _,.str _=>true|.byt _,.byt _=>true
 | .int _,.str _=>true|.str _,.int _=>true|.bl _,.str _=>true|.str _,.bl _=>true
 | _,_=>false
noncomputable def rEq:R2:=fun x y H Q=>scal x y=true/\Q (.bl (decide (x=y))) H
noncomputable def rNe:R2:=fun x y H Q=>scal x y=true/\Q (.bl (!decide (x=y))) H
theorem dec_int {i j:Int}:decide (V.int i=V.int j)=(i == j):=by
 rw[Bool.eq_iff_iff];simp
theorem dec_bl {i j:Bool}:decide (V.bl i=V.bl j)=(i == j):=by
 rw[Bool.eq_iff_iff];simp
theorem dec_str {i j:Str}:decide (V.str i=V.str j)=(i == j):=by
 rw[Bool.eq_iff_iff];simp
theorem dec_byt {i j:Array UInt8}:decide (V.byt i=V.byt j)=(i.toList == j.toList):=by
 rw[Bool.eq_iff_iff];cases i;cases j;simp
section
variable {X:Cx} {a b c:Expr} {ta tb tc:TE} {pos:Pos}
theorem fin_bl {pins:List (Addr×Obj)} {σ:St} {H:Hp} {s:Shared} {Q:VK} {k k':Bool} (I:Inv X pins σ H s) (q:Q (.bl k) H) (e:k=k'):EP X pins σ Q (.bool k') s:=by
 subst e;exact⟨.bl k,H,I,rfl,q⟩
theorem op_eq:OpR X (compareOp .Eq) rEq:=by
 intro pins s σ H x y v u Q I rx ry h;obtain⟨hs,q⟩:=h;cases x with
 | non =>
  cases rx;cases y with
  | non=>cases ry;exact PySem.EqNone.eq_none_none (fin_bl I q (by simp))
  | bl j=>cases ry;exact PySem.EqNone.eq_none_bool (fin_bl I q (by simp))
  | int j=>obtain⟨t',rfl⟩:=ry;exact PySem.EqNone.eq_none_int (fin_bl I q (by simp))
  | str j=>obtain⟨t',rfl⟩:=ry;exact PySem.EqNone.eq_none_str (fin_bl I q (by simp))
  | _=>exact absurd (show false=true from hs) Bool.false_ne_true
 | bl i =>
  cases rx;cases y with
  | non=>cases ry;exact PySem.EqNone.eq_bool_none (fin_bl I q (by simp))
  | bl j=>cases ry;exact eq_bool (fin_bl I q dec_bl)
  | str j=>obtain⟨t',rfl⟩:=ry;exact PySem.EqMixed.eq_bool_str (fin_bl I q (by simp))
  | _=>exact absurd (show false=true from hs) Bool.false_ne_true
 | int i =>
  obtain⟨t,rfl⟩:=rx;cases y with
  | non=>cases ry;exact PySem.EqNone.eq_int_none (fin_bl I q (by simp))
  | int j=>obtain⟨t',rfl⟩:=ry;exact eq_int (fin_bl I q dec_int)
  | str j=>obtain⟨t',rfl⟩:=ry;exact PySem.EqMixed.eq_int_str (fin_bl I q (by simp))
  | _=>exact absurd (show false=true from hs) Bool.false_ne_true
 | str i =>
  obtain⟨t,rfl⟩:=rx;cases y with
  | non=>cases ry;exact PySem.EqNone.eq_str_none (fin_bl I q (by simp))
  | bl j=>cases ry;exact PySem.EqMixed.eq_str_bool (fin_bl I q (by simp))
  | int j=>obtain⟨t',rfl⟩:=ry;exact PySem.EqMixed.eq_str_int (fin_bl I q (by simp))
  | str j=>obtain⟨t',rfl⟩:=ry;exact eq_str (fin_bl I q dec_str)
  | _=>exact absurd (show false=true from hs) Bool.false_ne_true
 | byt i =>
  obtain⟨t,rfl⟩:=rx;cases y with
  | byt j=>obtain⟨t',rfl⟩:=ry;exact PySem.W.eq_bytes (fin_bl I q dec_byt)
  | _=>exact absurd (show false=true from hs) Bool.false_ne_true
 | _=>cases y<;>exact absurd (show false=true from hs) Bool.false_ne_true
theorem op_ne:OpR X (compareOp .NotEq) rNe:=by
 intro pins s σ H x y v u Q I rx ry h;obtain⟨hs,q⟩:=h;cases x with
 | non =>
  cases rx;cases y with
  | non=>cases ry;exact PySem.EqNone.ne_none_none (fin_bl I q (by simp))
  | bl j=>cases ry;exact PySem.EqNone.ne_none_bool (fin_bl I q (by simp))
  | int j=>obtain⟨t',rfl⟩:=ry;exact PySem.EqNone.ne_none_int (fin_bl I q (by simp))
  | str j=>obtain⟨t',rfl⟩:=ry;exact PySem.EqNone.ne_none_str (fin_bl I q (by simp))
  | _=>exact absurd (show false=true from hs) Bool.false_ne_true
 | bl i =>
  cases rx;cases y with
  | non=>cases ry;exact PySem.EqNone.ne_bool_none (fin_bl I q (by simp))
  | bl j=>cases ry;exact ne_bool (fin_bl I q (congrArg not dec_bl))
  | str j=>obtain⟨t',rfl⟩:=ry;exact PySem.EqMixed.ne_bool_str (fin_bl I q (by simp))
  | _=>exact absurd (show false=true from hs) Bool.false_ne_true
 | int i =>
  obtain⟨t,rfl⟩:=rx;cases y with
  | non=>cases ry;exact PySem.EqNone.ne_int_none (fin_bl I q (by simp))
  | int j=>obtain⟨t',rfl⟩:=ry;exact ne_int (fin_bl I q (congrArg not dec_int))
  | str j=>obtain⟨t',rfl⟩:=ry;exact PySem.EqMixed.ne_int_str (fin_bl I q (by simp))
  | _=>exact absurd (show false=true from hs) Bool.false_ne_true
 | str i =>
  obtain⟨t,rfl⟩:=rx;cases y with
  | non=>cases ry;exact PySem.EqNone.ne_str_none (fin_bl I q (by simp))
  | bl j=>cases ry;exact PySem.EqMixed.ne_str_bool (fin_bl I q (by simp))
  | int j=>obtain⟨t',rfl⟩:=ry;exact PySem.EqMixed.ne_str_int (fin_bl I q (by simp))
  | str j=>obtain⟨t',rfl⟩:=ry;exact ne_str (fin_bl I q (congrArg not dec_str))
  | _=>exact absurd (show false=true from hs) Bool.false_ne_true
 | byt i =>
  obtain⟨t,rfl⟩:=rx;cases y with
  | byt j=>obtain⟨t',rfl⟩:=ry;exact PySem.W.ne_bytes (fin_bl I q (congrArg not dec_byt))
  | _=>exact absurd (show false=true from hs) Bool.false_ne_true
 | _=>cases y<;>exact absurd (show false=true from hs) Bool.false_ne_true
theorem op_lt:OpR X (compareOp .Lt) (rI0 fun i j=>.bl (decide (i<j))):=opB0 fun _ _ _ _ _ _ _ q=>lt_int q
theorem op_le:OpR X (compareOp .LtE) (rI0 fun i j=>.bl (decide (i<=j))):=opB0 fun _ _ _ _ _ _ _ q=>le_int q
theorem op_gt:OpR X (compareOp .Gt) (rI0 fun i j=>.bl (decide (j<i))):=opB0 fun _ _ _ _ _ _ _ q=>gt_int q
theorem op_ge:OpR X (compareOp .GtE) (rI0 fun i j=>.bl (decide (j<=i))):=opB0 fun _ _ _ _ _ _ _ q=>ge_int q
theorem op_lt_str:OpR X (compareOp .Lt) (fun x y H Q=>∃i j,x=.str i/\y=.str j/\Q (.bl (decide (i.cps.toList<j.cps.toList))) H):=by
 intro pins s σ H x y v u Q I rx ry h;obtain⟨i,j,rfl,rfl,q⟩:=h;obtain⟨t,rfl⟩:=rx;obtain⟨t',rfl⟩:=ry;exact lt_str (fin_bl I q rfl)
theorem op_in_str:OpR X (compareOp .In) (fun x y H Q=>∃i j,x=.str i/\y=.str j/\Q (.bl (!(Builtin.Str.occurrences j i 0 j.length 1).isEmpty)) H):=by
 intro pins s σ H x y v u Q I rx ry h;obtain⟨i,j,rfl,rfl,q⟩:=h;obtain⟨t,rfl⟩:=rx;obtain⟨t',rfl⟩:=ry;exact in_str (fin_bl I q rfl)
theorem OpR.or {f:Value->Value->Sem Value} {r r':R2} (h:OpR X f r) (h':OpR X f r'):OpR X f (fun x y H Q=>r x y H Q∨r' x y H Q):=by
 intro pins s σ H x y v u Q I rx ry q;rcases q with q|q
 ·exact h pins s σ H x y v u Q I rx ry q
 ·exact h' pins s σ H x y v u Q I rx ry q
theorem nomark (b:Expr) {op:CmpOp} (h:op≠.In:=by decide) (h2:op≠.NotIn:=by decide):behindInMarks op b=false:=by
 have e1:(op == CmpOp.In)=false:=by cases op<;>first|rfl|exact absurd rfl h
 have e2:(op == CmpOp.NotIn)=false:=by cases op<;>first|rfl|exact absurd rfl h2
 cases b<;>simp[behindInMarks,e1,e2]
theorem pe_cmpR {op:CmpOp} {r:R2} (ho:OpR X (compareOp op) r) (ha:PE X a ta) (hb:PE X b tb) (hm:behindInMarks op b=false):PE X (.Compare a [op] [b] pos) (tOp r ta tb):=by
 intro pins s σ H Q I h;exact wpAny_Compare1 (binT ha hb I h fun v u s2 x y H2 I2 rx ry q=>ho pins s2 σ H2 x y v u Q I2 rx ry q) hm
noncomputable def tTest (t:TE):TT:=fun σ H Q=>t σ H fun x H'=>∃k,x=.bl k/\Q k H'
theorem pt_cmpR {op:CmpOp} {r:R2} (ho:OpR X (compareOp op) r) (ha:PE X a ta) (hb:PE X b tb) (hm:behindInMarks op b=false):PT X (.Compare a [op] [b] pos) (tTest (tOp r ta tb)):=by
 intro pins s σ H Q I h
 refine wpAny_isTrue_Compare1 (thn (ha pins s σ H _ I h) fun v s1 ⟨x,H1,I1,r1,q1⟩=>thn (hb pins s1 σ H1 _ I1 q1) fun u s2 ⟨y,H2,I2,r2,q2⟩ =>
  thn (ho pins s2 σ H2 x y v u _ I2 r1 r2 q2) fun c s3 ⟨z,H3,I3,r3,k,e,q3⟩=>?_) hm
 subst e;cases r3;exact wpAny_truthy_bool ⟨H3,I3,q3⟩
theorem line63:(sizeLine:Nat)<2 ^ 63:=by rw[sizeLine_eq];decide
theorem op_add_str:OpR X (binaryOp .Add) (fun x y H Q=>∃i j,x=.str i/\y=.str j/\i.length+j.length<=sizeLine/\Q (.str (i++j)) H):=by
 intro pins s σ H x y v u Q I rx ry h;obtain⟨i,j,rfl,rfl,hz,q⟩:=h;obtain⟨t,rfl⟩:=rx;obtain⟨t',rfl⟩:=ry;exact add_str (fun t' tk=>⟨.str (i++j),H,I.tok _,⟨_,rfl⟩,q⟩) hz
theorem vals1 {x:V} {us:List Value} (r:Vals [x] us):∃u,us=[u]/\RelV x u:=by
 cases r with
 | cons r1 r2=>cases r2;exact⟨_,rfl,r1⟩
theorem vals2 {x y:V} {us:List Value} (r:Vals [x,y] us):∃u w',us=[u,w']/\RelV x u/\RelV y w':=by
 cases r with
 | cons r1 r2 =>
  cases r2 with
  | cons r3 r4=>cases r4;exact⟨_,_,rfl,r1,r3⟩
theorem call_abs:CallR X (.builtin "abs") (fun xs H Q=>∃i,xs=[.int i]/\Q (.int (if i<0 then -i else i)) H):=by
 intro pins s σ H xs us Q I r h;obtain⟨i,rfl,q⟩:=h;obtain⟨u,rfl,t,rfl⟩:=vals1 r;exact call_abs_int fun u tk=>⟨.int (if i<0 then -i else i),H,I.tok _,⟨_,rfl⟩,q⟩
theorem call_max2 (hc:X.calm=true):CallR X (.builtin "max") (fun xs H Q=>∃i j,xs=[.int i,.int j]/\Q (.int (if j > i then j else i)) H):=by
 intro pins s σ H xs us Q I r h;obtain⟨i,j,rfl,q⟩:=h;obtain⟨u,w',rfl,⟨t,rfl⟩,⟨t',rfl⟩⟩:=vals2 r;refine max_two_ints (I.ok.hd hc) fun h' tk k=>⟨_,H,I.kept k,?_,q⟩;by_cases hj:j > i
 ·rw[if_pos hj,if_pos hj];exact⟨_,rfl⟩
 ·rw[if_neg hj,if_neg hj];exact⟨_,rfl⟩
theorem call_min2 (hc:X.calm=true):CallR X (.builtin "min") (fun xs H Q=>∃i j,xs=[.int i,.int j]/\Q (.int (if j<i then j else i)) H):=by
 intro pins s σ H xs us Q I r h;obtain⟨i,j,rfl,q⟩:=h;obtain⟨u,w',rfl,⟨t,rfl⟩,⟨t',rfl⟩⟩:=vals2 r;refine min_two_ints (I.ok.hd hc) fun h' tk k=>⟨_,H,I.kept k,?_,q⟩;by_cases hj:j<i
 ·rw[if_pos hj,if_pos hj];exact⟨_,rfl⟩
 ·rw[if_neg hj,if_neg hj];exact⟨_,rfl⟩
theorem call_int1:CallR X (.type "int") (fun xs H Q=>(∃i,xs=[.int i]/\Q (.int i) H)∨∃k,xs=[.bl k]/\Q (.int (if k then 1 else 0)) H):=by
 intro pins s σ H xs us Q I r h;rcases h with⟨i,rfl,q⟩|⟨k,rfl,q⟩
 ·obtain⟨u,rfl,t,rfl⟩:=vals1 r;exact call_int_int ⟨.int i,H,I,⟨_,rfl⟩,q⟩
 ·obtain⟨u,rfl,r1⟩:=vals1 r;cases r1;exact call_int_bool ⟨.int (if k then 1 else 0),H,I.tok _,⟨_,rfl⟩,q⟩
end
end L2
namespace L2
open PySem PySem.Spec PyProof.Rows
structure ObjM (h:Heap) (x dx C:Addr) (mA:Str->Option Value):Prop where
 obj:h.get? x=some (PySem.W.instObj C dx)
 ns:h.Ns1 dx mA
 ne:dx≠x
theorem lookIn_ns {h:Heap} {dx:Addr} {mA:Str->Option Value} (n:h.Ns1 dx mA):∃od,h.get? dx=some od/\∀name,PySem.W.lookIn name od=some (mA name):=by
 obtain⟨o,es,ep,ho,hd,hk,_,hm⟩:=n;refine⟨o,ho,fun name=>?_⟩;have e:=hm name;unfold nsFind findBy at e;rw[← Array.find?_toList]at e;unfold PySem.W.lookIn;rw[hd];dsimp only;split
 ·rename_i y q
  rw[q]at e;exact congrArg some e
 ·rename_i q
  rw[q]at e;have a:es.toList.any (·.refKey)=false:=by
   rw[List.any_eq_false];intro y hy;obtain⟨z,t,hkey⟩:=hk y (Array.mem_toList_iff.mp hy);simp[DictEntry.refKey,hkey]
  have a':¬ es.toList.any (·.refKey)=true:=by rw[a];exact Bool.false_ne_true
  rw[if_neg a'];exact congrArg some e
theorem ObjM.look {h:Heap} {x dx C:Addr} {mA:Str->Option Value} (I:ObjM h x dx C mA):∃od,PySem.W.InstAt h x (PySem.W.instObj C dx) C (some od)/\∀name,PySem.W.lookIn name od=some (mA name) :=
 let ⟨od,ho,hl⟩:=lookIn_ns I.ns
 ⟨od,⟨I.obj,rfl,rfl,ho⟩,hl⟩
theorem RelO.some_of {v:V} {o:Option Value} (r:RelO (some v) o):∃u,o=some u/\RelV v u:=by
 cases o with
 | none=>exact(show False from r).elim
 | some u=>exact⟨u,rfl,r⟩
section
variable {P:Program} {w:World} {H H':Hp} {h h':Heap} {a C dx:Addr} {fs fs':List (Str×V)}
theorem ins_get (hok:HOk P w H h) (e:H a=some (.ins C dx fs)):∃mA,ObjM h a dx C mA/\(∀f,RelO (fs.lookup f) (mA f))/\PySem.Within mA (fs.map (·.1))/\fs.length<=1000/\H dx=some (.own a):=by
 obtain⟨d,z,ne,ob,mA,n,r,q⟩:=(show ObjOk P w H h a (.ins C dx fs) from hok a _ e);exact⟨mA,⟨ob,n,ne⟩,r,q,z,d⟩
end
structure Cls (K:PySem.W.Frag) (C:Addr):Prop where
 pg:PySem.W.plainGet K C Str.empty=true
 hd:PySem.W.hasDictIn K C=true
 po:PySem.W.plainOver K C=true
 sa:PySem.W.findIn K (.ref C) "__setattr__"=some (some (.builtin "object.__setattr__"))
theorem Cls.get {K:PySem.W.Frag} {C:Addr} (c:Cls K C) (f:Str):PySem.W.plainGet K C f=true:=c.pg
section
variable {X:Cx} {pins:List (Addr×Obj)} {σ:St} {H:Hp} {s:Shared} {A:Around} {E:Value->Shared->Prop} {Q:Value->Shared->Prop} {c:Value} {b:Bool}
inductive TyOf (K:PySem.W.Frag) (H:Hp):V->Value->Prop where
 | non:TyOf K H .non (.type "NoneType")
 | bl (x:Bool):TyOf K H (.bl x) (.type "bool")
 | int (i:Int):TyOf K H (.int i) (.type "int")
 | str (x:Str):TyOf K H (.str x) (.type "str")
 | flt (x:UInt64):TyOf K H (.flt x) (.type "float")
 | lst {a:Addr} {xs:List V} (e:H a=some (.lst xs)):TyOf K H (.ref a) (.type "list")
 | frz {a:Addr} {o:Obj} {xs:List V} (e:H a=some (.frz o (.lst xs))):TyOf K H (.ref a) (.type "list")
 | tup {a:Addr} {xs:List V} (e:H a=some (.tup xs)):TyOf K H (.ref a) (.type "tuple")
 | dK {a:Addr} {kvs:List (Key×V)} (e:H a=some (.dK kvs)):TyOf K H (.ref a) (.type "dict")
 | dT {a:Addr} {ep:Nat×List Addr} {kvs:List (List Key×V)} (e:H a=some (.dT ep kvs)):TyOf K H (.ref a) (.type "dict")
 | ins {a C dx:Addr} {fs:List (Str×V)} (e:H a=some (.ins C dx fs)) (cl:Cls K C) (ha:PySem.W.findIn K (.ref C) "__class__"=some (some (.builtin "object.__class__")))
   (hn:PySem.W.specialIn K (.builtin "object.__class__") "__get__"=some (some (.builtin "getset_descriptor.__get__"))) (htk:PySem.W.takesIn K (.builtin "object.__class__")=some true)
   (hm:PySem.W.mroIn K C (.type "object")=some true):TyOf K H (.ref a) (.ref C)
theorem isinst_ok {x:V} {u t:Value} (I:Inv X pins σ H s) (rx:RelV x u) (ty:TyOf X.K H x t) (e:PySem.W.kitOne X.K t c=some b) (h:∀tk,Q (.bool b) { s with toks:=tk }) :
  wpAny (model X.prog X.w) A (call (.builtin "isinstance") [u,c]) Q E s:=by
 cases ty with
 | non=>cases (show u=Value.none from rx);exact PySem.W.kia_one PySem.W.kitx_none I.kIn True.intro e (fun z=>nomatch z) h
 | bl y=>cases (show u=Value.bool y from rx);exact PySem.W.kia_one PySem.W.kitx_bool I.kIn True.intro e (fun z=>nomatch z) h
 | int i=>obtain⟨t,q⟩:=(show ∃t,u=Value.int i t from rx);cases q;exact PySem.W.kia_one PySem.W.kitx_int I.kIn True.intro e (fun z=>nomatch z) h
 | str y=>obtain⟨t,q⟩:=(show ∃t,u=Value.str y t from rx);cases q;exact PySem.W.kia_one PySem.W.kitx_str I.kIn True.intro e (fun z=>nomatch z) h
 | flt y=>obtain⟨t,q⟩:=(show ∃t,u=Value.float y t from rx);cases q;exact PySem.W.kia_one PySem.W.kitx_float I.kIn True.intro e (fun z=>nomatch z) h
 | @lst a xs ea =>
  cases (show u=Value.ref a from rx);obtain⟨_,_,n,_,h1⟩:=(show ObjOk X.prog X.w H s.heap a (.lst xs) from I.hok a _ ea);exact PySem.W.kia_one PySem.W.kitx_list I.kIn ⟨_,h1,rfl⟩ e (fun z=>nomatch z) h
 | @frz a ob xs ea =>
  cases (show u=Value.ref a from rx);obtain⟨_,_,_,n,_,h1⟩:=(show ObjOk X.prog X.w H s.heap a (.frz ob (.lst xs)) from I.hok a _ ea);exact PySem.W.kia_one PySem.W.kitx_list I.kIn ⟨_,h1,rfl⟩ e (fun z=>nomatch z) h
 | @tup a xs ea =>
  cases (show u=Value.ref a from rx);obtain⟨_,_,_,p⟩:=(show ObjOk X.prog X.w H s.heap a (.tup xs) from I.hok a _ ea);obtain⟨o,h1,h2,_⟩:=p;exact PySem.W.kia_one PySem.W.kitx_tuple I.kIn ⟨o,h1,h2⟩ e (fun z=>nomatch z) h
 | @dK a kvs ea =>
  cases (show u=Value.ref a from rx);obtain⟨_,_,vs,_,p⟩:=(show ObjOk X.prog X.w H s.heap a (.dK kvs) from I.hok a _ ea);obtain⟨o,es,ep,h1,h2,_⟩:=p;exact PySem.W.kia_one PySem.W.kitx_dict I.kIn ⟨o,h1,h2.1⟩ e (fun z=>nomatch z) h
 | @dT a ep kvs ea =>
  cases (show u=Value.ref a from rx);obtain⟨_,_,xs,_,_,o,es,h1,h2,_⟩:=(show ObjOk X.prog X.w H s.heap a (.dT ep kvs) from I.hok a _ ea);exact PySem.W.kia_one PySem.W.kitx_dict I.kIn ⟨o,h1,h2.1⟩ e (fun z=>nomatch z) h
 | @ins a C dx fs ea cl ha hn htk hm =>
  cases (show u=Value.ref a from rx);obtain⟨mA,O,_⟩:=ins_get I.hok ea;obtain⟨od,J,_⟩:=O.look;exact PySem.W.kia_one (PySem.W.kitx_own (cl.get _) cl.hd ha hn htk hm) I.kIn J e (fun z=>nomatch z) h
end
end L2
namespace L2
open PySem PySem.Spec PyProof.Rows
structure Room (k:Nat) (A:Around):Prop where
 hd:A.handled=none
 dp:A.depth+3*k+5<recursionLimit
 un:A.units+16*k+200<cLine
theorem Room.mono {j k:Nat} {A:Around} (r:Room k A) (h:j<=k):Room j A:=⟨r.hd,by have:=r.dp;omega,by have:=r.un;omega⟩
theorem Room.deeper {k:Nat} {A:Around} (r:Room (k+1) A) (env:Env):Room k (A.deeper env) :=
 ⟨r.hd,by have:=r.dp;show A.depth+1+3*k+5<_;omega,by have:=r.un;show A.units+3+16*k+200<_;omega⟩
theorem Room.depth {k:Nat} {A:Around} (r:Room k A):A.depth<recursionLimit:=by have:=r.dp;omega
theorem Room.units {k:Nat} {A:Around} (r:Room k A):A.units+64<cLine:=by have:=r.un;omega
noncomputable def tNil:TA:=fun _ H Q=>Q [] H
noncomputable def tCons (ta:TE) (tr:TA):TA:=fun σ H Q=>ta σ H fun x H1=>tr σ H1 fun xs H2=>Q (x::xs) H2
section
variable {X:Cx} {e:Expr} {es:List Expr} {te:TE} {t:TA} {pos:Pos}
theorem rJ:PA X [] tNil:=fun _ _ _ _ H Q I h=>Calls.spliced_nil ⟨[],H,I,.nil,h⟩
theorem pa_cons (ha:PE X e te) (hr:PA X es t) (hs:starEach (e::es) X.env=(false,eval e X.env)::starEach es X.env:=by rfl):PA X (e::es) (tCons te t):=by
 intro pos pins s σ H Q I h;rw[hs];show wpAny _ _ (spliced ((false,eval e X.env)::backTo pos (starEach es X.env))) _ _ s;refine Calls.spliced_cons (thn (ha pins s σ H _ I h) fun u s1 ⟨x,H1,I1,r1,q1⟩=>?_);exact thn (hr pos pins s1 σ H1 _ I1 q1) fun us s2 ⟨xs,H2,I2,r2,q2⟩=>⟨x::xs,H2,I2,.cons r1 r2,q2⟩
noncomputable def tTup (t:TA):TE:=fun σ H Q=>t σ H fun xs H1=>xs.length<=sizeLine/\∀p,H1 p=none->Q (.ref p) (upd H1 p (.tup xs))
noncomputable def tLst (t:TA):TE:=fun σ H Q=>t σ H fun xs H1=>xs.length<=sizeLine/\∀p,H1 p=none->Q (.ref p) (upd H1 p (.lst xs))
theorem pe_tup {x1} (h:PA X es t):PE X (.Tuple es x1 pos) (tTup t):=by
 intro pins s σ H Q I hq;refine wpAny_Tuple_spliced (thn (h pos pins s σ H _ I hq) fun us s1 ⟨xs,H1,I1,r,z,q⟩=>⟨by rw[← r.length];exact z,?_⟩)
 have hf:H1 s1.heap.objs.size=none:=I1.hok.fresh (Nat.le_refl _);refine⟨.ref s1.heap.objs.size,upd H1 s1.heap.objs.size (.tup xs),I1.laid (t':=s1.toks) (fun b u e=>Heap.get?_push_of_some _ e) (Nat.le_refl _) ?_,rfl,q _ hf⟩;exact⟨z,us,r,⟨_,Heap.get?_push_size _ rfl,rfl,_,rfl⟩⟩
theorem pe_lst (h:PA X es t):PE X (.List es pos) (tLst t):=by
 intro pins s σ H Q I hq;refine wpAny_List_spliced (thn (h pos pins s σ H _ I hq) fun us s1 ⟨xs,H1,I1,r,z,q⟩=>⟨by rw[← r.length];exact z,?_⟩)
 have hf:H1 s1.heap.objs.size=none:=I1.hok.fresh (Nat.le_refl _);refine⟨.ref s1.heap.objs.size,upd H1 s1.heap.objs.size (.lst xs),I1.laid (t':=s1.toks) (fun b u e=>Heap.get?_push_of_some _ e) (Nat.le_refl _) ?_,rfl,q _ hf⟩;exact⟨z,us,0,r,Heap.get?_push_size _ rfl⟩
end
noncomputable abbrev Sp:=List V->Hp->VK->XK->Prop
noncomputable abbrev CXT:=List Env->Hp->Shared->XK->Value->Shared->Prop
structure Env0 (P:Program) (w:World) (K:PySem.W.Frag) (mg:Str->Option Value) (base:Heap) (A:Around) (outer:List Env) (s:Shared) (H:Hp):Prop where
 frames:A.frames=some outer
 mod:Mod K mg base
 bs:∀b o,base.get? b=some o->s.heap.get? b=some o/\H b=none
 bsz:base.objs.size<=s.heap.objs.size
 funs:s.heap.FunFrames base outer
 frf:∀b∈frs outer,H b=none
 hok:HOk P w H s.heap
 bare:AllBare s.gens
noncomputable def CE (outer:List Env) (P:Program) (w:World) (H:Hp) (s:Shared) (Q:VK) (u:Value) (s':Shared):Prop :=
 ∃v H',s'.os=s.os/\AllBare s'.gens/\Un (frs outer) [] H H' s.heap s'.heap/\HOk P w H' s'.heap/\RelV v u/\Q v H'
noncomputable def CR (CX:CXT) (outer:List Env) (P:Program) (w:World) (H:Hp) (s:Shared) (Q:VK) (E:XK) (r:Result) (s':Shared):Prop :=
 match r with
 | .ok (.ret u)=>CE outer P w H s Q u s'
 | .ok _=>False
 | .error e=>CX outer H s E e s'
structure FnOk (P:Program) (w:World) (K:PySem.W.Frag) (mg:Str->Option Value) (base:Heap) (CX:CXT) (k:Nat) (f:Addr) (fd:FuncData) (ps:List Str) (sp:Sp):Prop where
 len:∀vs H Q E,sp vs H Q E->vs.length=ps.length
 run:∀(A:Around) (outer:List Env) (s:Shared) (H:Hp) (args:Args) (us:List Value) (vs:List V) (Q:VK) (E:XK),Room k A->Env0 P w K mg base A outer s H->BindsTo s fd args (ps.zip us)->Vals vs us->sp vs H Q E ->
  codeAny (model P w) A (.call (.ref f) args) (CR CX outer P w H s Q E) s
theorem FnOk.imp {P:Program} {w:World} {K:PySem.W.Frag} {mg:Str->Option Value} {base:Heap} {CX:CXT} {k:Nat} {f:Addr} {fd:FuncData} {ps:List Str} {sp sp':Sp} (F:FnOk P w K mg base CX k f fd ps sp)
  (h:∀vs H Q E,sp' vs H Q E->sp vs H Q E):FnOk P w K mg base CX k f fd ps sp' :=
 ⟨fun vs H Q E q=>F.len vs H Q E (h _ _ _ _ q),fun A outer s H args us vs Q E hr he hb hv hs=>F.run A outer s H args us vs Q E hr he hb hv (h _ _ _ _ hs)⟩
section
variable {X:Cx} {pins:List (Addr×Obj)} {σ:St} {H:Hp} {s s':Shared}
theorem Inv.env0 (I:Inv X pins σ H s):Env0 X.prog X.w X.K X.mg X.base X.A X.stack s H :=
 ⟨I.ok.frames,I.ok.mod,I.bs,Nat.le_trans I.ok.bsz I.sz,I.stack,I.stkFree,I.hok,I.bare⟩
theorem Inv.after {Q:VK} {u:Value} (I:Inv X pins σ H s) (h:CE X.stack X.prog X.w H s Q u s'):EP X pins σ Q u s':=by
 obtain⟨v,H',os,bare,un,hok,r,q⟩:=h;obtain⟨hh,g,d,t,os'⟩:=s';obtain rfl:os'=s.os:=os;exact⟨v,H',I.call (h':=hh) (g':=g) (d':=d) (t':=t) (ch:=[]) un hok bare (fun b z=>absurd z (by simp)),r,q⟩
end
noncomputable def tCall (sp:Sp) (dvs:List V) (E:XK) (t:TA):TE:=fun σ H Q=>t σ H fun vs H1=>sp (vs++dvs) H1 Q E
noncomputable def Binds (K:PySem.W.Frag) (fd:FuncData) (ps:List Str) (ds:List Value):Prop :=
 ∀(s:Shared) (us:List Value),K.In s.heap->(us++ds).length=ps.length->BindsTo s fd ⟨us,[]⟩ (ps.zip (us++ds))
theorem Binds.all {K:PySem.W.Frag} {fd:FuncData} {ps:List Str} (h:∀us:List Value,us.length=ps.length->bindArgs fd ⟨us,[]⟩=pure (ps.zip us)):Binds K fd ps []:=fun s us _ hl=>by
 rw[List.append_nil]at hl ⊢;exact .of_eq (h us hl)
noncomputable def Passes (CX:CXT) (X:Cx) (E:XK):Prop:=∀(pins:List (Addr×Obj)) (σ:St) (H:Hp) (s:Shared) (e:Value) (s':Shared),Inv X pins σ H s->CX X.stack H s E e s'->X.xe e s'
section
variable {X:Cx} {CX:CXT} {k:Nat} {f C:Addr} {fd:FuncData} {ps:List Str} {sp:Sp} {dvs:List V} {ds:List Value} {E:XK} {x m:Str} {p pos apos:Pos} {e o:Expr} {es:List Expr} {ta:TE} {t:TA}
theorem run_fn {pins:List (Addr×Obj)} {σ:St} {H:Hp} {s:Shared} {Q:VK} {us:List Value} {vs:List V} (F:FnOk X.prog X.w X.K X.mg X.base CX k f fd ps sp) (hr:Room k X.A) (hb:Binds X.K fd ps ds) (hd:Vals dvs ds) (hx:Passes CX X E)
  (I:Inv X pins σ H s) (r:Vals vs us) (h:sp (vs++dvs) H Q E):wpAny (model X.prog X.w) X.A (call (.ref f) us) (EP X pins σ Q) X.xe s:=by
 have r2:Vals (vs++dvs) (us++ds):=r.append hd;have hl:(us++ds).length=ps.length:=by rw[← r2.length];exact F.len _ _ _ _ h
 refine wpAny_call (codeAny_mono (F.run X.A X.stack s H ⟨us,[]⟩ (us++ds) (vs++dvs) Q E hr I.env0 (hb s us I.kIn hl) r2 h) fun r s' hq=>?_);cases r with
 | error e=>exact hx pins σ H s e s' I hq
 | ok fl =>
  cases fl with
  | ret u=>exact I.after hq
  | next=>exact False.elim hq
  | brk=>exact False.elim hq
  | cont=>exact False.elim hq
theorem pe_call (F:FnOk X.prog X.w X.K X.mg X.base CX k f fd ps sp) (hr:Room k X.A) (hg:Gl X x) (hm:X.mg x=some (.ref f)) (hk:PySem.W.keepIn X.K (.ref f)=true) (hb:Binds X.K fd ps ds) (hd:Vals dvs ds) (hx:Passes CX X E)
  (ha:PA X (e::es) t) (hdb:(x == ("__debug__":Str))=false:=by decide) (he:starEach (e::es) X.env=(false,eval e X.env)::starEach es X.env:=by rfl) (hpl:(backTo pos (starEach es X.env)).any (·.1)=false:=by rfl) :
  PE X (.Call (.Name x p) (e::es) [] pos) (tCall sp dvs E t):=by
 intro pins s σ H Q I h;refine wpAny_Call_Name_kw (ld_glob I hg hm ?_ hdb);refine PySem.W.callWith_K (h₀:=X.base) I.ok.mod.kin hk (thn (ha pos pins s σ H _ I h) fun us s1 ⟨vs,H1,I1,r,q⟩=>⟨I1.kIn,?_⟩) he hpl;exact run_fn F hr hb hd hx I1 r q
end
structure FnScope (N P:List Str) (sc:Scope):Prop where
 kind:sc.kind=.function
 co:sc.isCoroutine=false
 gen:sc.isGenerator=false
 nd:N.Nodup
 pre:N.take P.length=P
 par:∀x∈P,sc.names.lookup x=some .local∨sc.names.lookup x=some .cell
 nofree:∀y∈sc.names,y.2≠.free
theorem bindL_out {kindOf:Str->Option NameKind} {x:Str}:∀{binds:List (Str×Value)} {m:Str->Option Value},(∀v,(x,v)∉binds)->bindL kindOf binds m x=m x
 | [],_,_=>rfl
 | (n,v)::r,m,h=>by
  unfold bindL;rw[bindL_out fun w hw=>h w (List.mem_cons_of_mem _ hw)];split
  ·have:x≠n:=by rintro rfl;exact h v List.mem_cons_self
   simp[this]
  ·rfl
theorem bindC_out {kindOf:Str->Option NameKind} {x:Str}:∀{binds:List (Str×Value)} {m:Str->Option Value},(∀v,(x,v)∉binds)->bindC kindOf binds m x=m x
 | [],_,_=>rfl
 | (n,v)::r,m,h=>by
  unfold bindC;rw[bindC_out fun w hw=>h w (List.mem_cons_of_mem _ hw)];split
  ·rfl
  ·have:x≠n:=by rintro rfl;exact h v List.mem_cons_self
   simp[this]
theorem bindL_get {kindOf:Str->Option NameKind} {x:Str} {v:Value}:∀{P:List Str} {vs:List Value} {i:Nat} {m:Str->Option Value},P.Nodup->P[i]?=some x->vs[i]?=some v->kindOf x=some .local ->
  bindL kindOf (P.zip vs) m x=some v
 | [],_,_,_,_,h,_,_=>by simp at h
 | _::_,[],_,_,_,_,h,_=>by simp at h
 | p::P,w::vs,0,m,nd,h1,h2,hk=>by
  simp at h1 h2;subst h1;subst h2;show bindL kindOf ((p,w)::P.zip vs) m p=_;unfold bindL;rw[bindL_out fun v hv=>(List.nodup_cons.mp nd).1 (List.of_mem_zip hv).1,if_pos hk];simp
 | p::P,w::vs,i+1,m,nd,h1,h2,hk=>by
  show bindL kindOf ((p,w)::P.zip vs) m x=_;unfold bindL;exact bindL_get (i:=i) (List.nodup_cons.mp nd).2 (by simpa using h1) (by simpa using h2) hk
theorem bindC_get {kindOf:Str->Option NameKind} {x:Str} {v:Value}:∀{P:List Str} {vs:List Value} {i:Nat} {m:Str->Option Value},P.Nodup->P[i]?=some x->vs[i]?=some v->kindOf x≠some .local ->
  bindC kindOf (P.zip vs) m x=some v
 | [],_,_,_,_,h,_,_=>by simp at h
 | _::_,[],_,_,_,_,h,_=>by simp at h
 | p::P,w::vs,0,m,nd,h1,h2,hk=>by
  simp at h1 h2;subst h1;subst h2;show bindC kindOf ((p,w)::P.zip vs) m p=_;unfold bindC;rw[bindC_out fun v hv=>(List.nodup_cons.mp nd).1 (List.of_mem_zip hv).1,if_neg hk];simp
 | p::P,w::vs,i+1,m,nd,h1,h2,hk=>by
  show bindC kindOf ((p,w)::P.zip vs) m x=_;unfold bindC;exact bindC_get (i:=i) (List.nodup_cons.mp nd).2 (by simpa using h1) (by simpa using h2) hk
noncomputable def start (N:List Str) (vs:List V):St:=vs.map some++List.replicate (N.length-vs.length) none
noncomputable def cxOf (CX:CXT) (P:Program) (w:World) (K:PySem.W.Frag) (mg:Str->Option Value) (base:Heap) (N:List Str) (qual:Str) (scope:Scope) (f:Addr) (cd:Value) (A:Around) (outer:List Env) (s:Shared) (H:Hp) (E:XK):Cx where
 prog:=P
 w:=w
 K:=K
 mg:=mg
 base:=base
 A:=A.deeper (envOfC qual scope s.heap.objs.size f cd)
 N:=N
 s₀:=s
 H₀:=H
 env:=envOfC qual scope s.heap.objs.size f cd
 outer:=outer
 stack:=envOfC qual scope s.heap.objs.size f cd::outer
 ex:=[]
 calm:=true
 fn:=fun _=>true
 pn:=[]
 xe:=fun e s'=>wpAny (model P w) (A.deeper (envOfC qual scope s.heap.objs.size f cd)) (leaving (envOfC qual scope s.heap.objs.size f cd) e) (fun _ s''=>CX outer H s E e s'') (fun e' s''=>CX outer H s E e' s'') s'
theorem cell_has {sc:Scope} {n:Nat} {x:Str} (h:sc.names.lookup x=some .cell):∃c,(cellsFrom n sc.names []).lookup x=some c:=by
 have q:=PySem.W.cellsFrom_some sc.names n [] (.inl h);exact Option.isSome_iff_exists.mp q
theorem inv_start {CX:CXT} {P:Program} {w:World} {K:PySem.W.Frag} {mg:Str->Option Value} {base:Heap} {N ps:List Str} {qual:Str} {scope:Scope} {f:Addr} {cd:Value} {A:Around} {outer:List Env} {s s1:Shared} {H:Hp} {E:XK} {us:List Value} {vs:List V}
  (S:FnScope N ps scope) (hd:A.handled=none) (e0:Env0 P w K mg base A outer s H) (hl:vs.length=ps.length) (r:Vals vs us)
  (x:InCallC s s.heap.objs.size (bindL (envOfC qual scope s.heap.objs.size f cd).kindOf (ps.zip us) fun _=>none) (cellsFrom (s.heap.objs.size+1) scope.names []) (bindC (envOfC qual scope s.heap.objs.size f cd).kindOf (ps.zip us) fun _=>none) s1) :
  Inv (cxOf CX P w K mg base N qual scope f cd A outer s H E) [] (start N vs) H s1:=by
 have hpl:ps.length<=N.length:=by have:=congrArg List.length S.pre;rw[List.length_take]at this;omega
 obtain⟨h1,tk,rfl,hk⟩:=x.done;have noA:∀b:Addr,b∉(cxOf CX P w K mg base N qual scope f cd A outer s H E).ex:=fun b z=>absurd (show b∈([]:List Addr) from z) (by simp)
 refine⟨⟨e0.mod,S.kind,rfl,rfl,Nat.le_refl _,fun y z c h1 h2=>?_,fun y hy=>?_,fun y c _ h=>?_,fun _=>hd,Around.frames_deeper e0.frames,.inr ⟨rfl,rfl⟩,fun b z=>absurd z (noA b),e0.bs,e0.bsz,fun b _ _=>noA b,fun b z=>absurd z (noA b),e0.funs,e0.frf⟩,
  rfl,e0.bare,Un.kept hk,⟨_,x.toInCall.ns,fun i y v h1 h2 h3=>?_⟩,fun y c h=>⟨_,x.cell y c h⟩,e0.hok.fresh (Nat.le_refl _),fun y c h=>?_,fun p hp=>absurd (show p∈([]:List (Addr×Obj)) from hp) (by simp),e0.hok.kept hk,?_⟩
 ·exact name_of_addr x.apart (PySem.mem_of_lookup h1) (PySem.mem_of_lookup h2)
 ·have hy:scope.names.lookup y=some .cell∨scope.names.lookup y=some .free:=hy;rcases hy with hy|hy
  ·exact cell_has hy
  ·exact absurd rfl (S.nofree _ (PySem.mem_of_lookup hy))
 ·exact Nat.le_of_lt (x.above y c (PySem.mem_of_lookup h))
 ·have hi:i<vs.length:=by
   unfold start at h2;by_cases hi:i<vs.length
   ·exact hi
   ·rw[List.getElem?_append_right (by simpa using hi)]at h2
    rw[List.getElem?_replicate]at h2;split at h2<;>cases h2
  have ha:vs[i]?=some v:=by
   unfold start at h2;rw[List.getElem?_append_left (by simpa using hi),List.getElem?_map]at h2
   cases e:vs[i]? with
   | none=>rw[e]at h2;cases h2
   | some a=>rw[e]at h2;cases h2;rfl
  obtain⟨u,hu,rv⟩:=r.get ha;have hp:ps[i]?=some y:=by
   rw[← S.pre,List.getElem?_take_of_lt (by omega)];exact h1
  have ndP:ps.Nodup:=by rw[← S.pre];exact S.nd.sublist (List.take_sublist _ _)
  refine⟨u,rv,?_⟩;rcases S.par y (List.mem_of_getElem? hp) with k|k
  ·exact .inl ⟨k,bindL_get ndP hp hu k⟩
  ·obtain⟨c,e⟩:=cell_has (n:=s.heap.objs.size+1) k;refine .inr ⟨.inl k,c,e,?_⟩;have q:=x.cell y c e;rw[bindC_get ndP hp hu (by show scope.names.lookup y≠_;rw[k];decide)]at q
   exact q
 ·exact e0.hok.fresh (Nat.le_of_lt (x.above y c (PySem.mem_of_lookup h)))
 ·unfold start;show _=N.length;rw[List.length_append,List.length_map,List.length_replicate];omega
theorem fn_of {CX:CXT} {P:Program} {w:World} {K:PySem.W.Frag} {mg:Str->Option Value} {base:Heap} {k:Nat} {f:Addr} {name qual:Str} {params:Arguments} {body:List Stmt} {scope:Scope} {dV kV doc pm cdv ct oc:Value} {an od:Option Addr}
  {osl:Array (Option Value)} {N ps:List Str} {sp:Sp} (lk:K.lookup f=some ⟨oc,od,.func (PySem.W.fnOf name qual params body scope dV kV doc pm an cdv ct),osl⟩) (hcd:PySem.W.codeIn K cdv qual=true) (S:FnScope N ps scope)
  (len:∀vs H Q E,sp vs H Q E->vs.length=ps.length)
  (hbody:∀(A:Around) (outer:List Env) (s:Shared) (H:Hp) (vs:List V) (Q:VK) (E:XK),Room k (A.deeper (envOfC qual scope s.heap.objs.size f cdv))->sp vs H Q E ->
   ∃t,PSs (cxOf CX P w K mg base N qual scope f cdv A outer s H E) body t/\t { nx:=fun _ H'=>Q .non H',rt:=Q } (start N vs) H) :
  FnOk P w K mg base CX (k+1) f (PySem.W.fnOf name qual params body scope dV kV doc pm an cdv ct) ps sp:=by
 refine⟨len,fun A outer s H args us vs Q E hr e0 hb r hsp=>?_⟩;have hl:=len _ _ _ _ hsp;have KX:K.In s.heap:=e0.mod.kin.keeps fun b o e=>(e0.bs b o e).1;have lim:s.heap.NoLimit:=e0.mod.nolimit.keeps fun b o e=>(e0.bs b o e).1;have hkind:∀y∈ps.zip us,scope.names.lookup y.1=some .local∨(scope.names.lookup y.1=some .cell/\((cellsFrom (s.heap.objs.size+1) scope.names []).lookup y.1).isSome=true):=fun⟨n,v⟩ hy=>by
  rcases S.par n (List.of_mem_zip hy).1 with q|q
  ·exact .inl q
  ·exact .inr ⟨q,PySem.W.cellsFrom_some _ _ _ (.inl q)⟩
 refine codeAny_call_function hr.depth (KX _ _ lk) rfl S.co S.gen rfl (PySem.W.codeRec_of KX hcd) (hb _ _ _ _ ?_);refine wpAny_newFunctionEnv_cells S.kind hkind fun env he s1 x=>?_;subst he;refine⟨lim.keeps x.toInCall.keep,codeAny_func ?_⟩;obtain⟨t,ht,hq⟩:=hbody A outer s H vs Q E (hr.deeper _) hsp;have I:Inv (cxOf CX P w K mg base N qual scope f cdv A outer s H E) [] (start N vs) H s1:=inv_start S hr.hd e0 hl r x;refine wpAny_mono (ht [] s1 (start N vs) H _ I hq) (fun fl s' hs=>?_) fun e s' hs=>hs;have fin:∀{σ':St} {H':Hp} {v:V} {u:Value},Inv (cxOf CX P w K mg base N qual scope f cdv A outer s H E) [] σ' H' s'->RelV v u->Q v H'->CE outer P w H s Q u s' :=
  fun {σ' H' v u} J rv q=>⟨v,H',J.os,J.bare,J.base,J.hok,rv,q⟩
 cases fl with
 | ret u =>
  obtain⟨v,σ',H',J,rv,q⟩:=hs;exact fin J rv q
 | next =>
  obtain⟨σ',H',J,q⟩:=hs;exact fin (v:=V.non) (u:=Value.none) J rfl q
 | brk =>
  obtain⟨_,_,_,q⟩:=hs;exact False.elim q
 | cont =>
  obtain⟨_,_,_,q⟩:=hs;exact False.elim q
end L2
namespace L2
open PySem PySem.Spec PyProof.Rows
section
variable {X:Cx} {x:Str} {p pos:Pos} {e:Expr} {es:List Expr} {t:TA} {id T:String} {r:List V->Hp->VK->Prop}
noncomputable def tCB (r:List V->Hp->VK->Prop) (t:TA):TE:=fun σ H Q=>t σ H fun vs H1=>r vs H1 Q
theorem rE (hc:CallR X (.builtin id) r) (hg:Gl X x) (hm:X.mg x=none) (hv:bootBuiltins x=some (.builtin id)) (ha:PA X (e::es) t) (hn:x≠"__name__":=by decide) (hdb:(x == ("__debug__":Str))=false:=by decide)
  (he:starEach (e::es) X.env=(false,eval e X.env)::starEach es X.env:=by rfl) (hpl:(backTo pos (starEach es X.env)).any (·.1)=false:=by rfl):PE X (.Call (.Name x p) (e::es) [] pos) (tCB r t):=by
 intro pins s σ H Q I h;refine wpAny_Call_Name_kw (ld_blt I hg hm hv ?_ hn hdb);exact PyProof.Rows.callWith_builtin1 (thn (ha pos pins s σ H _ I h) fun us s1 ⟨vs,H1,I1,r1,q1⟩=>hc pins s1 σ H1 vs us Q I1 r1 q1) he hpl
theorem pe_callTy (hc:CallR X (.type T) r) (hg:Gl X x) (hm:X.mg x=none) (hv:bootBuiltins x=some (.type T)) (ha:PA X (e::es) t) (hn:x≠"__name__":=by decide) (hdb:(x == ("__debug__":Str))=false:=by decide)
  (he:starEach (e::es) X.env=(false,eval e X.env)::starEach es X.env:=by rfl) (hpl:(backTo pos (starEach es X.env)).any (·.1)=false:=by rfl):PE X (.Call (.Name x p) (e::es) [] pos) (tCB r t):=by
 intro pins s σ H Q I h;refine wpAny_Call_Name_kw (ld_blt I hg hm hv ?_ hn hdb);exact PyProof.Rows.callWith_type1 (thn (ha pos pins s σ H _ I h) fun us s1 ⟨vs,H1,I1,r1,q1⟩=>hc pins s1 σ H1 vs us Q I1 r1 q1) he hpl
end
end L2
namespace L2
open PySem PySem.Spec PyProof.Rows
section
variable {κ:Type} [DecidableEq κ]
noncomputable def valV (kvs:List (κ×V)) (k:κ):Option V:=(kvs.find? fun kv=>decide (kv.1=k)).map (·.2)
noncomputable def putK (kvs:List (κ×V)) (k:κ) (v:V):List (κ×V) :=
 if (kvs.any fun kv=>decide (kv.1=k))=true then kvs.map (fun kv=>if kv.1=k then(kv.1,v) else kv) else kvs++[(k,v)]
theorem valV_pos {p:κ×V} {r:List (κ×V)} {k:κ} (e:p.1=k):valV (p::r) k=some p.2:=by simp[valV,List.find?_cons,e]
theorem valV_neg {p:κ×V} {r:List (κ×V)} {k:κ} (e:¬ p.1=k):valV (p::r) k=valV r k:=by simp[valV,List.find?_cons,e]
theorem valV_any (k:κ):∀kvs:List (κ×V),(kvs.any fun kv=>decide (kv.1=k))=(valV kvs k).isSome
 | []=>rfl
 | p::r=>by
  rw[List.any_cons];by_cases e:p.1=k
  ·simp only[valV_pos e,decide_eq_true e,Bool.true_or,Option.isSome_some]
  ·rw[valV_neg e,decide_eq_false e,Bool.false_or];exact valV_any k r
theorem length_putK (kvs:List (κ×V)) (k:κ) (v:V):(putK kvs k v).length<=kvs.length+1:=by
 unfold putK;split
 ·rw[List.length_map];omega
 ·rw[List.length_append,List.length_cons,List.length_nil];omega
theorem RelO.isSome_eq {o:Option V} {u:Option Value} (r:RelO o u):o.isSome=u.isSome:=by
 cases o with
 | none=>cases u with
  | none=>rfl
  | some _=>exact(show False from r).elim
 | some _=>cases u with
  | none=>exact(show False from r).elim
  | some _=>rfl
theorem KV.val {kvs:List (κ×V)} {vs:List (κ×Value)} (r:KV kvs vs) (k:κ):RelO (valV kvs k) (valueAt vs k):=by
 unfold KV at r;induction r with
 | nil=>exact True.intro
 | @cons p q ps qs h t ih =>
  obtain⟨h1,h2⟩:=h;by_cases e:p.1=k
  ·have e':q.1=k:=h1.symm.trans e;have b:valueAt (q::qs) k=some q.2:=by simp[valueAt,List.find?_cons,e']
   rw[valV_pos e,b];exact h2
  ·have e':¬ q.1=k:=fun z=>e (h1.trans z);have b:valueAt (q::qs) k=valueAt qs k:=by simp[valueAt,List.find?_cons,e']
   rw[valV_neg e,b];exact ih
theorem KV.any {kvs:List (κ×V)} {vs:List (κ×Value)} (r:KV kvs vs) (k:κ):(kvs.any fun kv=>decide (kv.1=k))=vs.any fun kv=>decide (kv.1=k):=by
 unfold KV at r;induction r with
 | nil=>rfl
 | cons h t ih=>rw[List.any_cons,List.any_cons,ih,h.1]
theorem KV.repl {kvs:List (κ×V)} {vs:List (κ×Value)} (r:KV kvs vs) (k:κ) {y:V} {u:Value} (ry:RelV y u) :
  KV (kvs.map fun kv=>if kv.1=k then(kv.1,y) else kv) (vs.map fun kv=>if kv.1=k then(kv.1,u) else kv):=by
 unfold KV at r ⊢;induction r with
 | nil=>exact .nil
 | @cons p q ps qs h t ih =>
  rw[List.map_cons,List.map_cons];refine .cons ?_ ih;obtain⟨h1,h2⟩:=h;by_cases e:p.1=k
  ·rw[if_pos e,if_pos (h1.symm.trans e)];exact⟨h1,ry⟩
  ·rw[if_neg e,if_neg (fun z=>e (h1.trans z))];exact⟨h1,h2⟩
theorem KV.put {kvs:List (κ×V)} {vs:List (κ×Value)} (r:KV kvs vs) (k:κ) {y:V} {u:Value} (ry:RelV y u):KV (putK kvs k y) (stored vs k u):=by
 unfold putK stored;rw[r.any k];by_cases e:(vs.any fun kv=>decide (kv.1=k))=true
 ·rw[if_pos e,if_pos e];exact r.repl k ry
 ·rw[if_neg e,if_neg e];exact Paired.snoc r ⟨rfl,ry⟩
theorem KV.length {kvs:List (κ×V)} {vs:List (κ×Value)} (r:KV kvs vs):kvs.length=vs.length:=Paired.length r
end
theorem kV_is {P:Program} {w:World} {k:Key} {u:Value} (r:RelV (kV k) u):(mixKind P w).is k u=true:=by
 cases k with
 | inl i=>obtain⟨t,e⟩:=(show ∃t,u=Value.int i t from r);subst e;exact mixKind_int P w i t
 | inr x=>obtain⟨t,e⟩:=(show ∃t,u=Value.str x t from r);subst e;exact mixKind_str P w x t
theorem items_are {P:Program} {w:World}:∀{ks:List Key} {us:List Value},Vals (ks.map kV) us->ItemsAre (mixKind P w) ks us
 | [],_,r=>by rw[List.map_nil]at r;cases r;exact .nil
 | k::ks,_,r=>by
  rw[List.map_cons]at r;cases r with
  | cons h t=>exact .cons (kV_is h) (items_are t)
noncomputable abbrev KT (H:Hp):List (List Key×V)->List (List Key×Addr×Value)->Prop:=Paired fun p q=>p.1=q.1/\H q.2.1=some (.tup (p.1.map kV))/\RelV p.2 q.2.2
theorem KT.val {H:Hp} {kvs:List (List Key×V)} {xs:List (List Key×Addr×Value)} (r:KT H kvs xs) (k:List Key):RelO (valV kvs k) ((atKey xs k).map (·.2)):=by
 induction r with
 | nil=>exact True.intro
 | @cons p q ps qs h t ih =>
  obtain⟨h1,_,h2⟩:=h;by_cases e:p.1=k
  ·have e':q.1=k:=h1.symm.trans e;have b:atKey (q::qs) k=some q.2:=by simp[atKey,List.find?_cons,e']
   rw[valV_pos e,b];exact h2
  ·have e':¬ q.1=k:=fun z=>e (h1.trans z);have b:atKey (q::qs) k=atKey qs k:=by simp[atKey,List.find?_cons,e']
   rw[valV_neg e,b];exact ih
theorem KT.repl {H:Hp} {kvs:List (List Key×V)} {xs:List (List Key×Addr×Value)} (r:KT H kvs xs) (k:List Key) {y:V} {u:Value} (ry:RelV y u) :
  KT H (kvs.map fun kv=>if kv.1=k then(kv.1,y) else kv) (xs.map (putAt k u)):=by
 induction r with
 | nil=>exact .nil
 | @cons p q ps qs h t ih =>
  rw[List.map_cons,List.map_cons];refine .cons ?_ ih;obtain⟨h1,h2,h3⟩:=h;unfold putAt;by_cases e:p.1=k
  ·rw[if_pos e,if_pos (h1.symm.trans e)];exact⟨h1,h2,ry⟩
  ·rw[if_neg e,if_neg (fun z=>e (h1.trans z))];exact⟨h1,h2,h3⟩
theorem KT.put {H:Hp} {kvs:List (List Key×V)} {xs:List (List Key×Addr×Value)} (r:KT H kvs xs) (k:List Key) {b:Addr} {y:V} {u:Value} (hb:H b=some (.tup (k.map kV))) (ry:RelV y u) :
  KT H (putK kvs k y) (storedH xs k b u):=by
 have e:(kvs.any fun kv=>decide (kv.1=k))=(atKey xs k).isSome:=by
  rw[valV_any,(r.val k).isSome_eq,Option.isSome_map]
 unfold putK storedH;rw[e];by_cases q:(atKey xs k).isSome=true
 ·rw[if_pos q,if_pos q];exact r.repl k ry
 ·rw[if_neg q,if_neg q];exact Paired.snoc r ⟨rfl,hb,ry⟩
theorem KT.keeps {H H':Hp} {kvs:List (List Key×V)} {xs:List (List Key×Addr×Value)} (r:KT H kvs xs) (ht:∀b ys,H b=some (.tup ys)->H' b=some (.tup ys)):KT H' kvs xs :=
 Paired.mapP r fun _ _ z=>⟨z.1,ht _ _ z.2.1,z.2.2⟩
section
variable {P:Program} {w:World} {H:Hp} {h:Heap} {a:Addr}
theorem rd_of {u:HO} (ok:HOk P w H h) (e:Rd H a u):ObjOk P w H h a u:=e.ok ok
theorem dk_rd {kvs:List (Key×V)} (ok:HOk P w H h) (e:Rd H a (.dK kvs)):kvs.length<=sizeLine/\(a == sysModules)=false/\∃vs,KV kvs vs/\h.DictOf (mixKind P w) a vs :=
 show ObjOk P w H h a (.dK kvs) from rd_of ok e
theorem dk_of {kvs:List (Key×V)} (ok:HOk P w H h) (e:H a=some (.dK kvs)):kvs.length<=sizeLine/\(a == sysModules)=false/\∃vs,KV kvs vs/\h.DictOf (mixKind P w) a vs:=dk_rd ok (.inl e)
theorem key_of {ks:List Key} (ok:HOk P w H h) (e:H a=some (.tup (ks.map kV))):(tupleKind (mixKind P w)).is h ks a:=by
 obtain⟨_,its,r,o,h1,h2,n,h3⟩:=(show ObjOk P w H h a (.tup (ks.map kV)) from ok a _ e);exact⟨o,its.toArray,n,h1,h2,h3,by simpa using items_are r⟩
theorem dt_rd {ep:Nat×List Addr} {kvs:List (List Key×V)} (ok:HOk P w H h) (e:Rd H a (.dT ep kvs)):kvs.length<=sizeLine/\(a == sysModules)=false /\
  ∃xs,KT H kvs xs/\h.DictOfH (tupleKind (mixKind P w)) a xs:=by
 obtain⟨z,y,xs,r,_,o,es,h1,h2,h3,h4,h5⟩:=(show ObjOk P w H h a (.dT ep kvs) from rd_of ok e);refine⟨z,y,xs,r,o,es,ep.1,h1,h2,h3,h4,fun x hx=>?_,h5⟩;have all:∀{l:List (List Key×V)} {m:List (List Key×Addr×Value)},KT H l m->∀x∈m,(tupleKind (mixKind P w)).is h x.1 x.2.1:=by
  intro l m q;induction q with
  | nil=>intro x hx;exact nomatch hx
  | @cons p q ps qs hq t ih =>
   intro x hx;rcases List.mem_cons.mp hx with e|hx
   ·subst e;exact key_of ok (by rw[← hq.1];exact hq.2.1)
   ·exact ih x hx
 exact all r x hx
end
section
variable {P:Program} {w:World} {H:Hp} {h:Heap} {a:Addr}
theorem dt_as {ep:Nat×List Addr} {kvs:List (List Key×V)} (ok:HOk P w H h) (e:H a=some (.dT ep kvs)):kvs.length<=sizeLine/\(a == sysModules)=false /\
  ∃xs,KT H kvs xs/\xs.map (·.2.1)=ep.2/\h.DictOfH (tupleKind (mixKind P w)) a xs:=by
 obtain⟨z,y,xs,r,ra,o,es,h1,h2,h3,h4,h5⟩:=(show ObjOk P w H h a (.dT ep kvs) from ok a _ e);refine⟨z,y,xs,r,ra,o,es,ep.1,h1,h2,h3,h4,fun x hx=>?_,h5⟩;have all:∀{l:List (List Key×V)} {m:List (List Key×Addr×Value)},KT H l m->∀x∈m,(tupleKind (mixKind P w)).is h x.1 x.2.1:=fun {l m} q=>by
  induction q with
  | nil=>exact fun x hx=>nomatch hx
  | cons hq t ih =>
   intro x hx;rcases List.mem_cons.mp hx with e'|hx
   ·subst e';exact key_of ok (by rw[← hq.1];exact hq.2.1)
   ·exact ih x hx
 exact all r x hx
end
noncomputable def DGet (H:Hp) (a:Addr) (y:V) (r:Option V):Prop :=
 (∃kvs k,Rd H a (.dK kvs)/\y=kV k/\r=valV kvs k)∨∃ep kvs k b,Rd H a (.dT ep kvs)/\y=.ref b/\H b=some (.tup (k.map kV))/\r=valV kvs k
noncomputable def putA (as:List Addr) (kvs:List (List Key×V)) (k:List Key) (b:Addr):List Addr:=if (valV kvs k).isSome=true then as else as++[b]
noncomputable def DPut (H:Hp) (a:Addr) (y v:V) (R:Hp->Prop):Prop :=
 (∃kvs k,H a=some (.dK kvs)/\y=kV k/\kvs.length<sizeLine/\R (upd H a (.dK (putK kvs k v)))) ∨
 ∃ep kvs k b,H a=some (.dT ep kvs)/\y=.ref b/\H b=some (.tup (k.map kV))/\kvs.length<sizeLine/\∀n,R (upd H a (.dT (n,putA ep.2 kvs k b) (putK kvs k v)))
theorem DGet.k {H:Hp} {a:Addr} {kvs:List (Key×V)} {k:Key} (e:H a=some (.dK kvs)):DGet H a (kV k) (valV kvs k):=.inl ⟨kvs,k,.inl e,rfl,rfl⟩
theorem DGet.t {H:Hp} {a b:Addr} {ep:Nat×List Addr} {kvs:List (List Key×V)} {k:List Key} (e:H a=some (.dT ep kvs)) (eb:H b=some (.tup (k.map kV))):DGet H a (.ref b) (valV kvs k):=.inr ⟨ep,kvs,k,b,.inl e,rfl,eb,rfl⟩
theorem as_put {H:Hp} {kvs:List (List Key×V)} {xs:List (List Key×Addr×Value)} {as:List Addr} {k:List Key} {b:Addr} {u:Value} (ra:xs.map (·.2.1)=as) (rel:KT H kvs xs):(storedH xs k b u).map (·.2.1)=putA as kvs k b:=by
 have e:(valV kvs k).isSome=(atKey xs k).isSome:=by rw[(rel.val k).isSome_eq,Option.isSome_map]
 unfold storedH putA;rw[e];by_cases q:(atKey xs k).isSome=true
 ·rw[if_pos q,if_pos q,← ra,List.map_map];refine List.map_congr_left fun x _=>?_;show(putAt k u x).2.1=x.2.1;unfold putAt;split<;>rfl
 ·rw[if_neg q,if_neg q,List.map_append,ra];rfl
section
variable {X:Cx} {pins:List (Addr×Obj)} {σ:St} {H:Hp} {s:Shared} {a:Addr} {y v:V} {u r:Value} {o:Option V} {A:Around} {E:Value->Shared->Prop}
theorem Inv.big (I:Inv X pins σ H s):sysModules<s.heap.objs.size:=by
 have h:mainGlobals<s.heap.objs.size:=(I.mod.glob.keeps I.bk).lt;exact Nat.lt_trans (by decide) h
theorem d_getItem {Q:Value->Shared->Prop} (hu:A.units+1<cLine) (I:Inv X pins σ H s) (g:DGet H a y (some v)) (ry:RelV y u) (h:∀w' s',Inv X pins σ H s'->RelV v w'->Q w' s') :
  wpAny (model X.prog X.w) A (getItem (.ref a) u) Q E s:=by
 rcases g with⟨kvs,k,e,ey,l⟩|⟨ep,kvs,k,b,e,ey,eb,l⟩
 ·subst ey;obtain⟨z,hd,vs,rel,dd⟩:=dk_rd I.hok e;obtain⟨w',hw,rw'⟩:=RelO.some_of (v:=v) (o:=valueAt vs k) (by rw[l];exact rel.val k)
  exact wpAny_getItem_of (kV_is ry) dd.mapOf hw (h w' _ (I.tok _) rw')
 ·subst ey;cases (show u=Value.ref b from ry);obtain⟨z,hd,xs,rel,dd⟩:=dt_rd I.hok e;obtain⟨w',hw,rw'⟩:=RelO.some_of (v:=v) (o:=(atKey xs k).map (·.2)) (by rw[l];exact rel.val k)
  obtain⟨p,hp,hp2⟩:=Option.map_eq_some_iff.mp hw;refine wpAny_getItem_heap (tupleKind_room_in1 hu) (key_of I.hok eb) dd hp ?_;rw[hp2];exact h w' _ (I.tok _) rw'
theorem d_in {Q:Value->Shared->Prop} (hu:A.units+1<cLine) (I:Inv X pins σ H s) (g:DGet H a y o) (ry:RelV y u) (h:∀s',Inv X pins σ H s'->Q (.bool o.isSome) s') :
  wpAny (model X.prog X.w) A (compareOp .In u (.ref a)) Q E s:=by
 rcases g with⟨kvs,k,e,ey,l⟩|⟨ep,kvs,k,b,e,ey,eb,l⟩
 ·subst ey;obtain⟨z,hd,vs,rel,dd⟩:=dk_rd I.hok e;refine wpAny_in_of (kV_is ry) hd dd.mapOf ?_;rw[← (rel.val k).isSome_eq,← l];exact h _ (I.tok _)
 ·subst ey;cases (show u=Value.ref b from ry);obtain⟨z,hd,xs,rel,dd⟩:=dt_rd I.hok e;refine wpAny_in_heap (tupleKind_room_in1 hu) (key_of I.hok eb) hd dd ?_;have q:=(rel.val k).isSome_eq;rw[Option.isSome_map]at q;rw[← q,← l];exact h _ (I.tok _)
theorem d_notIn {Q:Value->Shared->Prop} (hu:A.units+1<cLine) (I:Inv X pins σ H s) (g:DGet H a y o) (ry:RelV y u) (h:∀s',Inv X pins σ H s'->Q (.bool (!o.isSome)) s') :
  wpAny (model X.prog X.w) A (compareOp .NotIn u (.ref a)) Q E s:=by
 rcases g with⟨kvs,k,e,ey,l⟩|⟨ep,kvs,k,b,e,ey,eb,l⟩
 ·subst ey;obtain⟨z,hd,vs,rel,dd⟩:=dk_rd I.hok e;refine wpAny_notIn_of (kV_is ry) hd dd.mapOf ?_;rw[← (rel.val k).isSome_eq,← l];exact h _ (I.tok _)
 ·subst ey;cases (show u=Value.ref b from ry);obtain⟨z,hd,xs,rel,dd⟩:=dt_rd I.hok e;refine wpAny_notIn_heap (tupleKind_room_in1 hu) (key_of I.hok eb) hd dd ?_;have q:=(rel.val k).isSome_eq;rw[Option.isSome_map]at q;rw[← q,← l];exact h _ (I.tok _)
theorem d_write {h':Heap} {t':Nat} {ob:HO} (I:Inv X pins σ H s) (mu:Mut (H a)) (hs:Heap.SameBut a s.heap h') (he:∃q,h'.get? a=some q) (new:ObjOk X.prog X.w (upd H a ob) h' a ob) :
  Inv X pins σ (upd H a ob) { s with heap:=h',toks:=t' } :=
 I.write (x:=a) (e:=a) mu (.inl rfl) (fun b q hb z=>(hs.2 b hb).trans z) he new
theorem dk_new {P:Program} {w:World} {H':Hp} {h':Heap} {kvs:List (Key×V)} {vs:List (Key×Value)} (z:kvs.length<=sizeLine) (hd:(a == sysModules)=false) (rel:KV kvs vs) (dd:h'.DictOf (mixKind P w) a vs) :
  ObjOk P w H' h' a (.dK kvs):=⟨z,hd,vs,rel,dd⟩
theorem d_setItem {R:Hp->Prop} {Q:Unit->Shared->Prop} (hu:A.units+1<cLine) (I:Inv X pins σ H s) (g:DPut H a y v R) (ry:RelV y u) (rv:RelV v r) (h:∀s' H',Inv X pins σ H' s'->R H'->Q () s') :
  wpAny (model X.prog X.w) A (setItem (.ref a) u r) Q E s:=by
 rcases g with⟨kvs,k,e,ey,l,eH⟩|⟨ep,kvs,k,b,e,ey,eb,l,eH⟩
 ·subst ey;obtain⟨z,hd,vs,rel,dd⟩:=dk_of I.hok e;have hz:vs.length<=sizeLine:=by rw[← rel.length];exact z
  have hl:(putK kvs k v).length<=sizeLine:=by have:=length_putK kvs k v;omega
  refine wpAny_setItem_pairs (hsz:=hz) (kV_is ry) dd fun h' dd' hs=>h _ _ ?_ eH;have he:∃q,h'.get? a=some q:=let ⟨q,_,_,hq,_⟩:=dd';⟨q,hq⟩;exact d_write I (by rw[e];exact True.intro) hs he (dk_new hl hd (rel.put k rv) dd')
 ·subst ey;cases (show u=Value.ref b from ry);obtain⟨z,hd,xs,rel,ra0,dd⟩:=dt_as I.hok e;have hz:xs.length<=sizeLine:=by rw[← Paired.length rel];exact z
  have hl:(putK kvs k v).length<=sizeLine:=by have:=length_putK kvs k v;omega
  have ra:xs.map (·.2.1)=ep.2:=ra0;refine wpAny_setItem_heap (hsz:=hz) (tupleKind_room_in1 hu) (key_of I.hok eb) dd fun h' dd' hs=>?_;obtain⟨q,es,ep',hq,h2,h3,h4,_,h5⟩:=dd';refine h _ _ ?_ (eH ep');refine d_write I (by rw[e];exact True.intro) hs ⟨q,hq⟩ ⟨hl,hd,_,(rel.put k eb rv).keeps fun c ys ec=>?_,as_put ra rel,q,es,hq,h2,h3,h4,h5⟩
  rw[upd_ne (ne_of ec e (fun z=>nomatch z))];exact ec
end
noncomputable def NoSl (i:Expr):Prop:=∀ov iv,subscripted i false ov iv=operate [ov,iv] (getItem ov iv)
theorem subD_of {prog:Program} {w:World} {A:Around} {E:Value->Shared->Prop} {s:Shared} {env:Env} {value slice:Expr} {pos:Pos} {T id:String} {Q:Value->Shared->Prop}
  (hl:typeLookup (.type T) "__getitem__"=pure (some (.builtin id))) (hs:NoSl slice)
  (h:wpAny (model prog w) A (eval value env) (fun o s₁=>wpAny (model prog w) A (eval slice env) (fun i s₂=>s₂.TypeIs o T/\wpAny (model prog w) A (getItem o i) Q E s₂) E s₁) E s) :
  wpAny (model prog w) A (eval (.Subscript value slice pos) env) Q E s:=by
 refine Subscript_ (wpAny_mono h (fun o s₁ h₁=>wpAny_mono h₁ (fun i s₂ h₂=>?_) fun _ _ x=>x) fun _ _ x=>x);obtain⟨hT,h₂⟩:=h₂;unfold subscriptTail;refine wpAny_bind ?_;rw[getitemInPython_of_ne hT.not_modules];refine wpAny_bind (wpAny_specialOf hT hl ?_);have fin:wpAny (model prog w) A (subscripted slice false o i) (fun r s₃=>wpAny (model prog w) A (letTemporaryGo value o r >>= fun _=>pure r) Q E s₃) E s₂:=by
  rw[hs o i];exact wpAny_operating (wpAny_mono h₂ (fun r s₃ h₃=>wpAny_bind (wpAny_letTemporaryGo (wpAny_pure h₃))) fun _ _ x=>x)
 first
  | exact wpAny_pure (wpAny_bind fin)
  | exact wpAny_bind (wpAny_pure (wpAny_bind fin))
  | exact wpAny_bind fin
theorem dict_typeIs {X:Cx} {pins:List (Addr×Obj)} {σ:St} {H:Hp} {s:Shared} {a:Addr} {y:V} {o:Option V} (I:Inv X pins σ H s) (g:DGet H a y o):s.TypeIs (.ref a) "dict":=by
 rcases g with⟨kvs,k,e,_,_⟩|⟨ep,kvs,k,b,e,_,_,_⟩
 ·obtain⟨_,_,vs,_,dd⟩:=dk_rd I.hok e;exact dd.typeIs
 ·obtain⟨_,_,xs,_,dd⟩:=dt_rd I.hok e;exact dd.typeIs
noncomputable def tDGet (td ty:TE):TE:=fun σ H Q=>td σ H fun x H1=>ty σ H1 fun y H2=>∃a v,x=.ref a/\DGet H2 a y (some v)/\Q v H2
section
variable {X:Cx} {o i e value:Expr} {pos pos' tpos:Pos} {td ty tv:TE}
theorem pe_dget (hu:X.A.units+1<cLine) (ho:PE X o td) (hi:PE X i ty) (hs:NoSl i):PE X (.Subscript o i pos) (tDGet td ty):=by
 intro pins s σ H Q I h;refine subD_of PySem.F.slot_dict_getitem.lookup hs (thn (ho pins s σ H _ I h) fun u s1 ⟨x,H1,I1,rx,q1⟩=>thn (hi pins s1 σ H1 _ I1 q1) fun iv s2 ⟨y,H2,I2,ry,a,v,ex,g,q2⟩=>?_);subst ex;obtain rfl:u=Value.ref a:=rx;exact⟨dict_typeIs I2 g,d_getItem hu I2 g ry fun w' s3 I3 rw'=>⟨v,H2,I3,rw',q2⟩⟩
end
theorem dk_empty {P:Program} {w:World} {H:Hp} (h:Heap) (hb:sysModules<h.objs.size):ObjOk P w H (h.push { cls:=.type "dict",data:=.dict #[] }) h.objs.size (.dK []) :=
 ⟨Nat.zero_le _,beq_eq_false_iff_ne.mpr (Ne.symm (Nat.ne_of_lt hb)),[],.nil,Heap.DictOf.new h⟩
theorem dt_empty {P:Program} {w:World} {H:Hp} (h:Heap) (hb:sysModules<h.objs.size):ObjOk P w H (h.push { cls:=.type "dict",data:=.dict #[] }) h.objs.size (.dT (0,[]) []) :=
 ⟨Nat.zero_le _,beq_eq_false_iff_ne.mpr (Ne.symm (Nat.ne_of_lt hb)),[],.nil,rfl,_,#[],Heap.get?_push_size _ rfl,⟨rfl,rfl,rfl⟩,rfl,rfl,List.nodup_nil⟩
noncomputable def tDNewK:TE:=fun _ H Q=>∀p,H p=none->Q (.ref p) (upd H p (.dK []))
noncomputable def tDNewT:TE:=fun _ H Q=>∀p,H p=none->Q (.ref p) (upd H p (.dT (0,[]) []))
section
variable {X:Cx} {pos:Pos}
theorem pe_dnewK:PE X (.Dict [] [] pos) tDNewK:=fun pins s σ H Q I h =>
 wpAny_Dict_empty ⟨.ref s.heap.objs.size,_,I.laid (a:=s.heap.objs.size) (o:=.dK []) (t':=s.toks) (fun _ _ q=>Heap.get?_push_of_some _ q) (Nat.le_refl _) (dk_empty s.heap I.big),rfl,h _ (I.hok.fresh (Nat.le_refl _))⟩
theorem pe_dnewT:PE X (.Dict [] [] pos) tDNewT:=fun pins s σ H Q I h =>
 wpAny_Dict_empty ⟨.ref s.heap.objs.size,_,I.laid (a:=s.heap.objs.size) (o:=.dT (0,[]) []) (t':=s.toks) (fun _ _ q=>Heap.get?_push_of_some _ q) (Nat.le_refl _) (dt_empty s.heap I.big),rfl,h _ (I.hok.fresh (Nat.le_refl _))⟩
end
end L2
namespace HT
open PySem PyProof.Rows
theorem rcLt_int (A:Around) (s:Shared) (a:Int) (t:Tok) (c:Int) (u:Tok) (prog:Program) (w:World) (E:Value->Shared->Prop) (Q:Value->Shared->Prop) (h:Q (.bool (decide (a<c))) s) :
  wpAny (model prog w) A (richCompare .Lt (.int a t) (.int c u)) Q E s :=
 (PyProof.Rows.lt_int h:wpAny (model prog w) A (compareOp .Lt (.int a t) (.int c u)) Q E s)
section
variable {prog:Program} {w:World} {A:Around} {E:Value->Shared->Prop} {s:Shared}
theorem cat_tup {t b:Addr} {vs ws:List Value} {Q:Value->Shared->Prop} (ht:IsTup s.heap t vs.toArray) (hb:IsTup s.heap b ws.toArray) (hv:vs≠[])
  (h1:ws=[]->Q (.ref t) s) (h2:ws≠[]->Q (.ref s.heap.objs.size) { s with heap:=s.heap.push { cls:=.type "tuple",data:=.seq (vs++ws).toArray } })
  (hsz:vs.length+ws.length<=sizeLine):wpAny (model prog w) A (binaryOp .Add (.ref t) (.ref b)) Q E s:=by
 obtain⟨⟨cls,dd,data,sl⟩,ho,hc,n,hd⟩:=id ht;obtain⟨⟨cls2,dd2,data2,sl2⟩,ho2,hc2,n2,hd2⟩:=id hb;simp only at hc hd hc2 hd2;subst hc hd hc2 hd2;have e:vs.toArray++ws.toArray=(vs++ws).toArray:=by simp
 by_cases hw:ws=[]
 ·exact concat_meets ⟨_,ho,rfl⟩ ⟨_,ho2,rfl⟩ noFill_tuple_add seq_tuple_add PySem.F.slot_tuple_add PySem.F.entry_tuple_add (PySem.F.args_tuple_add_2 _ _)
   (tuple_addW1 t b vs.toArray ws.toArray n n2 dd dd2 sl sl2 (by simpa using hv) (by simp[hw])) ⟨ho,ho2,h1 hw⟩
 ·refine concat_meets ⟨_,ho,rfl⟩ ⟨_,ho2,rfl⟩ noFill_tuple_add seq_tuple_add PySem.F.slot_tuple_add PySem.F.entry_tuple_add (PySem.F.args_tuple_add_2 _ _)
   (tuple_addW2 t b vs.toArray ws.toArray n n2 dd dd2 sl sl2 (by simpa using hv) (by simpa using hw) (by rw[List.size_toArray,List.size_toArray];exact hsz)) ⟨ho,ho2,?_⟩
  rw[e];exact h2 hw
noncomputable def sIx (n d:Nat):Option Int->Nat
 | none=>d
 | some v=>if v<0 then(v+(n:Int)).toNat else min v.toNat n
theorem sIx_none (n d:Nat):sIx n d none=d:=rfl
theorem sIx_nat (n d k:Nat):sIx n d (some (k:Int))=min k n:=by
 show(if (k:Int)<0 then((k:Int)+(n:Int)).toNat else min (k:Int).toNat n)=min k n;rw[if_neg (by omega),Int.toNat_natCast]
theorem sIx_le (n d:Nat) (hd:d<=n) (o:Option Int):sIx n d o<=n:=by
 cases o with
 | none=>exact hd
 | some v =>
  show(if v<0 then(v+(n:Int)).toNat else min v.toNat n)<=n;by_cases hv:v<0
  ·rw[if_pos hv];omega
  ·rw[if_neg hv];exact Nat.min_le_right _ _
theorem clip_eq (v:Int) (n d:Nat):(if v<0 then max (v+(n:Int)) 0 else min v (n:Int))=((sIx n d (some v):Nat):Int):=by
 show(if v<0 then max (v+(n:Int)) 0 else min v (n:Int))=(((if v<0 then(v+(n:Int)).toNat else min v.toNat n):Nat):Int);by_cases hv:v<0
 ·simp only[if_pos hv];omega
 ·simp only[if_neg hv];omega
theorem adjust_gen (lo hi:Option Int) (n:Nat):Builtin.Slice.sliceAdjust lo hi 1 (n:Int)=(((sIx n 0 lo:Nat):Int),((sIx n n hi:Nat):Int)):=by
 have h1:¬ ((1:Int)<0):=by omega
 unfold Builtin.Slice.sliceAdjust;simp only[h1,if_false];refine Prod.ext ?_ ?_
 ·cases lo with
  | none=>rfl
  | some v=>exact clip_eq v n 0
 ·cases hi with
  | none=>rfl
  | some v=>exact clip_eq v n n
theorem places_gen (i j:Nat):Builtin.Slice.slicePlaces (i:Int) (j:Int) 1=j-i:=by
 unfold Builtin.Slice.slicePlaces;have h1:(1:Int) > 0:=by omega
 simp only[h1,if_true,Int.ediv_one];split<;>omega
theorem slicePart_ {v:Value} {o:Option Int} {Q:Option Int->Shared->Prop} (p:IsPart v o) (h:Q o s):wpAny (model prog w) A (Builtin.Slice.slicePartIndex v) Q E s:=by
 cases p with
 | none=>exact slicePart_none h
 | int i t=>exact slicePart_int h
theorem sliceApplied_gen {sl:Addr} {vl vu:Value} {lo hi:Option Int} {n:Nat} {Q:Int×Int×Nat->Shared->Prop} (hs:s.heap.IsSliceOf sl vl vu .none) (pl:IsPart vl lo) (pu:IsPart vu hi)
  (h:Q (((sIx n 0 lo:Nat):Int),1,sIx n n hi-sIx n 0 lo) s):wpAny (model prog w) A (Builtin.Slice.sliceApplied (.ref sl) (pure (n:Int))) Q E s:=by
 obtain⟨os,hos,hcs,hds⟩:=id hs;unfold Builtin.Slice.sliceApplied Builtin.Slice.sliceFields;refine wpAny_bind (wpAny_bind (wpAny_field hos hds (x:=vl) rfl (wpAny_bind (wpAny_field hos hds (x:=vu) rfl (wpAny_bind (wpAny_field hos hds (x:=.none) rfl (wpAny_pure ?_)))))));refine wpAny_bind (slicePart_none ?_);show wpAny _ _ (if ((1:Int) == 0)=true then _ else _) _ _ s;rw[if_neg (by decide)]
 refine wpAny_bind (slicePart_ pl (wpAny_bind (slicePart_ pu (wpAny_bind (wpAny_pure ?_)))));show wpAny _ _ (match Builtin.Slice.sliceAdjust lo hi 1 (n:Int) with|(lo,hi)=>pure (lo,(1:Int),Builtin.Slice.slicePlaces lo hi 1)) _ _ s
 rw[adjust_gen lo hi n];show wpAny _ _ (pure (((sIx n 0 lo:Nat):Int),(1:Int),Builtin.Slice.slicePlaces ((sIx n 0 lo:Nat):Int) ((sIx n n hi:Nat):Int) 1)) _ _ s;rw[places_gen];exact wpAny_pure h
theorem pick_gen (xs:Array Value) (i k:Nat):((List.range k).filterMap fun(m:Nat)=>xs[((i:Int)+(m:Int)*1).toNat]?).toArray=((xs.toList.drop i).take k).toArray:=by
 have e:(fun(m:Nat)=>xs[((i:Int)+(m:Int)*1).toNat]?)=fun m=>xs[i+m]?:=by
  funext m
  have:((i:Int)+(m:Int)*1).toNat=i+m:=by omega
  rw[this]
 rw[e];have:=pick_run xs i k;rw[List.filterMap_map]at this;have e2:((fun x=>xs[x]?) ∘ fun x=>i+x)=fun m=>xs[i+m]?:=rfl;rw[e2]at this;rw[this]
theorem getItem_tuple_cut {t sl:Addr} {items:Array Value} {vl vu:Value} {lo hi:Option Int} {Q:Value->Shared->Prop} (ht:IsTup s.heap t items) (hs:s.heap.IsSliceOf sl vl vu .none) (pl:IsPart vl lo) (pu:IsPart vu hi)
  (hw:¬ (sIx items.size 0 lo=0/\sIx items.size items.size hi=items.size))
  (h:Q (.ref s.heap.objs.size) { s with heap:=s.heap.push { cls:=.type "tuple",data:=.seq ((items.toList.drop (sIx items.size 0 lo)).take (sIx items.size items.size hi-sIx items.size 0 lo)).toArray } })
  (hsz:items.size<=sizeLine):wpAny (model prog w) A (getItem (.ref t) (.ref sl)) Q E s:=by
 have htake:sizeOk (.seq ((items.toList.drop (sIx items.size 0 lo)).take (sIx items.size items.size hi-sIx items.size 0 lo)).toArray):=by
  show((items.toList.drop (sIx items.size 0 lo)).take (sIx items.size items.size hi-sIx items.size 0 lo)).toArray.size<=sizeLine;rw[List.size_toArray,List.length_take,List.length_drop,Array.length_toList];omega
 have hj:sIx items.size items.size hi<=items.size:=sIx_le _ _ (Nat.le_refl _) hi;obtain⟨os,hos,hcs,hds⟩:=id hs;have hTs:s.TypeIs (.ref sl) "slice":=⟨os,hos,hcs⟩;unfold getItem
 try with_reducible refine wpAny_holding ?_
 first|refine wpAny_bind (wpAny_pure ?_)|skip
 refine wpAny_bind (wpAny_sequenceKey ht.typeIs (by decide) ?_)
 refine wpAny_bind (wpAny_callSpecial?_slot (name:=Str.ofString "__getitem__") ht.typeIs PyProof.Rows.slot_tuple_getitem
  (wpAny_call_entry PyProof.Rows.slot_tuple_getitem ht.typeIs entry_tuple_getitem ?_ (args_tuple_getitem _ _)))
 show wpAny _ _ (Builtin.Tuple.tupleItemsOf (.ref t) >>= _) _ _ s;refine wpAny_bind (tupleItemsOf_ ht ?_);refine wpAny_bind (wpAny_typeOf hTs ?_);rw[if_pos (by decide)]
 refine wpAny_bind (sliceApplied_gen hs pl pu ?_);have hno:¬ ((((sIx items.size 0 lo:Nat):Int) == 0&&(1:Int) == 1&&(sIx items.size items.size hi-sIx items.size 0 lo) == items.size)=true):=by
  intro q;rw[Bool.and_eq_true,Bool.and_eq_true]at q;have q1:((sIx items.size 0 lo:Nat):Int)=0:=eq_of_beq q.1.1;have q2:sIx items.size items.size hi-sIx items.size 0 lo=items.size:=eq_of_beq q.2;exact hw ⟨by omega,by omega⟩
 show wpAny _ _ (if (((sIx items.size 0 lo:Nat):Int) == 0&&(1:Int) == 1&&(sIx items.size items.size hi-sIx items.size 0 lo) == items.size)=true then _ else _) _ _ s;rw[if_neg hno,pick_gen]
 first
  | exact wpAny_bind (m:=Builtin.Tuple.tupleExact _) (wpAny_newObj_type (wpAny_pure ⟨_,rfl,wpAny_pure h⟩) htake)
  | exact wpAny_bind (m:=Builtin.Tuple.tupleExact _) (wpAny_newObj_type (wpAny_bind (wpAny_pure (wpAny_pure ⟨_,rfl,wpAny_pure h⟩))) htake)
  | exact wpAny_bind (wpAny_bind (m:=Builtin.Tuple.tupleExact _) (wpAny_newObj_type (wpAny_pure (wpAny_pure ⟨_,rfl,wpAny_pure h⟩)) htake))
  | exact wpAny_bind (wpAny_bind (m:=Builtin.Tuple.tupleExact _) (wpAny_newObj_type (wpAny_pure ⟨_,rfl,wpAny_pure h⟩) htake))
end
end HT
namespace L2
open PySem PySem.Spec PyProof.Rows
noncomputable abbrev TO:=St->Hp->(Option Int->Hp->Prop)->Prop
noncomputable def PO (X:Cx) (e:Option Expr) (t:TO):Prop :=
 ∀(pins:List (Addr×Obj)) (s:Shared) (σ:St) (H:Hp) (Q:Option Int->Hp->Prop),Inv X pins σ H s->t σ H Q ->
  wpAny (model X.prog X.w) X.A (evalPart e X.env) (fun u s'=>∃o H',Inv X pins σ H' s'/\IsPart u o/\Q o H') X.xe s
noncomputable def tNoPart:TO:=fun _ H Q=>Q none H
noncomputable def tPart (t:TE):TO:=fun σ H Q=>t σ H fun x H1=>∃i,x=.int i/\Q (some i) H1
section
variable {X:Cx} {e:Expr} {te:TE} {lo hi:Option Expr} {tl th:TO} {pos p2:Pos}
theorem po_none:PO X none tNoPart:=by
 intro pins s σ H Q I h;rw[evalPart_none];exact wpAny_pure ⟨none,H,I,.none,h⟩
theorem po_some (h:PE X e te):PO X (some e) (tPart te):=by
 intro pins s σ H Q I hw;rw[evalPart_some];refine thn (h pins s σ H _ I hw) fun u s1 ⟨x,H1,I1,r1,q1⟩=>?_;obtain⟨i,rfl,q⟩:=q1;obtain⟨t,rfl⟩:=r1;exact⟨some i,H1,I1,.int i t,q⟩
noncomputable def SlR (X:Cx) (r:V->Option Int->Option Int->Hp->VK->Prop):Prop :=
 ∀(pins:List (Addr×Obj)) (s:Shared) (σ:St) (H:Hp) (x:V) (v vl vu:Value) (lo hi:Option Int) (sl:Addr) (Q:VK),Inv X pins σ H s->RelV x v->s.heap.IsSliceOf sl vl vu .none->IsPart vl lo->IsPart vu hi->r x lo hi H Q ->
  ∃T id,typeLookup (.type T) "__getitem__"=pure (some (.builtin id))/\s.TypeIs v T/\wpAny (model X.prog X.w) X.A (getItem v (.ref sl)) (EP X pins σ Q) X.xe s
theorem SlR.or {r r':V->Option Int->Option Int->Hp->VK->Prop} (h:SlR X r) (h':SlR X r'):SlR X (fun x lo hi H Q=>r x lo hi H Q∨r' x lo hi H Q):=by
 intro pins s σ H x v vl vu lo hi sl Q I rx hs pl pu q;rcases q with q|q
 ·exact h pins s σ H x v vl vu lo hi sl Q I rx hs pl pu q
 ·exact h' pins s σ H x v vl vu lo hi sl Q I rx hs pl pu q
noncomputable def tSl (r:V->Option Int->Option Int->Hp->VK->Prop) (te:TE) (tl th:TO):TE:=fun σ H Q=>te σ H fun x H1=>tl σ H1 fun l H2=>th σ H2 fun u H3=>r x l u H3 Q
theorem pe_slice {r:V->Option Int->Option Int->Hp->VK->Prop} (hr:SlR X r) (he:PE X e te) (hl:PO X lo tl) (hu:PO X hi th):PE X (.Subscript e (.Slice lo hi none p2) pos) (tSl r te tl th):=by
 intro pins s σ H Q I h;refine Subscript_ (thn (he pins s σ H _ I h) fun v s1 ⟨x,H1,I1,r1,q1⟩=>?_);refine wpAny_Slice (thn (hl pins s1 σ H1 _ I1 q1) fun vl s2 ⟨l,H2,I2,pl,q2⟩=>thn (hu pins s2 σ H2 _ I2 q2) fun vu s3 ⟨u,H3,I3,pu,q3⟩=>?_);rw[evalPart_none];refine wpAny_pure ?_;have I4:Inv X pins σ H3 { s3 with heap:=s3.heap.push { cls:=.type "slice",data:=.fields #[vl,vu,.none] } }:=I3.kept (t':=s3.toks) fun b ob q=>Heap.get?_push_of_some _ q;obtain⟨T,id,hT,ht,hg⟩:=hr pins { s3 with heap:=s3.heap.push { cls:=.type "slice",data:=.fields #[vl,vu,.none] } } σ H3 x v vl vu l u s3.heap.objs.size Q I4 r1 (Heap.IsSliceOf.new ..) pl pu q3;show wpAny (model X.prog X.w) X.A (subscriptTail e (.Slice lo hi none p2) v (.ref s3.heap.objs.size)) (EP X pins σ Q) X.xe { s3 with heap:=s3.heap.push { cls:=.type "slice",data:=.fields #[vl,vu,.none] } };exact tail_any (ops:=[.ref s3.heap.objs.size,v]) ht hT hg (by with_unfolding_all rfl)
noncomputable def cutV (xs:List V) (lo hi:Option Int):List V:=(xs.drop (HT.sIx xs.length 0 lo)).take (HT.sIx xs.length xs.length hi-HT.sIx xs.length 0 lo)
theorem cutV_length (xs:List V) (lo hi:Option Int):(cutV xs lo hi).length<=xs.length:=by
 unfold cutV;rw[List.length_take,List.length_drop];omega
noncomputable def rSlT (K:PySem.W.Frag):V->Option Int->Option Int->Hp->VK->Prop:=fun x lo hi H Q=>∃a xs,x=.ref a/\SqT K H a xs /\
 ¬ (HT.sIx xs.length 0 lo=0/\HT.sIx xs.length xs.length hi=xs.length)/\∀p,H p=none->Q (.ref p) (upd H p (.tup (cutV xs lo hi)))
theorem sl_tup:SlR X (rSlT X.K):=by
 intro pins s σ H x v vl vu lo hi sl Q I rx hs pl pu h;obtain⟨a,xs,rfl,hx,hw,q⟩:=h;cases rx;obtain⟨its,r,ht,hz⟩:=I.tuple hx;have hlen:its.toArray.size=xs.length:=by rw[List.size_toArray];exact r.length.symm
 refine⟨"tuple",_,PyProof.Rows.slot_tuple_getitem.lookup,ht.typeIs,?_⟩;refine HT.getItem_tuple_cut ht hs pl pu (by rw[hlen];exact hw) ?_ (by rw[hlen];exact hz)
 rw[hlen];refine⟨.ref s.heap.objs.size,_,I.laid (t':=s.toks) (o:=.tup (cutV xs lo hi)) (fun b ob q=>Heap.get?_push_of_some _ q) (Nat.le_refl _) ?_,rfl,q _ (I.hok.fresh (Nat.le_refl _))⟩;exact⟨Nat.le_trans (cutV_length xs lo hi) hz,_,(r.drop (HT.sIx xs.length 0 lo)).take (HT.sIx xs.length xs.length hi-HT.sIx xs.length 0 lo),IsTup.new _ _⟩
noncomputable def rCatT (K:PySem.W.Frag):R2:=fun x y H Q=>∃a b xs ys,x=.ref a/\y=.ref b/\SqT K H a xs/\SqT K H b ys/\xs≠[]/\xs.length+ys.length<=sizeLine /\
 (ys=[]->Q (.ref a) H)/\(ys≠[]->∀p,H p=none->Q (.ref p) (upd H p (.tup (xs++ys))))
theorem Vals.nil_iff {xs:List V} {us:List Value} (r:Vals xs us):us=[]↔xs=[]:=by
 cases r with
 | nil=>simp
 | cons _ _=>simp
theorem op_catT:OpR X (binaryOp .Add) (rCatT X.K):=by
 intro pins s σ H x y v u Q I rx ry h;obtain⟨a,b,xs,ys,rfl,rfl,ha,hb,hx,hz,q1,q2⟩:=h;cases rx;cases ry;obtain⟨its,r1,p1,_⟩:=I.tuple ha;obtain⟨its2,r2,p2,_⟩:=I.tuple hb;refine HT.cat_tup p1 p2 (fun z=>hx (r1.nil_iff.mp z)) (fun z=>⟨.ref a,H,I,rfl,q1 (r2.nil_iff.mp z)⟩) (fun z=>?_) (by rw[← r1.length,← r2.length];exact hz)
 refine⟨.ref s.heap.objs.size,_,I.laid (t':=s.toks) (o:=.tup (xs++ys)) (fun b ob q=>Heap.get?_push_of_some _ q) (Nat.le_refl _) ?_,rfl,q2 (fun w=>z (r2.nil_iff.mpr w)) _ (I.hok.fresh (Nat.le_refl _))⟩;exact⟨by rw[List.length_append];exact hz,_,r1.append r2,IsTup.new _ _⟩
end
end L2
namespace L2
open PySem PySem.Spec PyProof.Rows
noncomputable def ixN (n:Nat) (i:Int):Option Nat:=if 0<=i then(if i<n then some i.toNat else none) else if -(n:Int)<=i then some (i+n).toNat else none
noncomputable def atI {α:Type} (xs:List α) (i:Int):Option α:=(ixN xs.length i).bind fun j=>xs[j]?
theorem ixN_seq {n:Nat} {i:Int} {j:Nat} (h:ixN n i=some j):seqIndex? i n=some j/\j<n/\-(n:Int)<=i/\i<n:=by
 unfold ixN at h;by_cases h0:0<=i
 ·rw[if_pos h0]at h;by_cases h1:i<n
  ·rw[if_pos h1]at h;have e:i.toNat=j:=Option.some.inj h;exact⟨by rw[seqIndex_of h0 h1,e],by omega,by omega,h1⟩
  ·rw[if_neg h1]at h;cases h
 ·rw[if_neg h0]at h;by_cases h1:-(n:Int)<=i
  ·rw[if_pos h1]at h;have e:(i+n).toNat=j:=Option.some.inj h;exact⟨by rw[seqIndex_neg (by omega) h1,e],by omega,h1,by omega⟩
  ·rw[if_neg h1]at h;cases h
theorem atI_get {α:Type} {xs:List α} {i:Int} {v:α} (h:atI xs i=some v):∃j,seqIndex? i xs.length=some j/\xs[j]?=some v/\j<xs.length/\-(xs.length:Int)<=i/\i<xs.length:=by
 unfold atI at h;cases e:ixN xs.length i with
 | none=>rw[e]at h;cases h
 | some j =>
  rw[e]at h;obtain⟨h1,h2,h3,h4⟩:=ixN_seq e;exact⟨j,h1,h,h2,h3,h4⟩
theorem atI_nat {α:Type} {xs:List α} {j:Nat} {v:α} (h:xs[j]?=some v):atI xs (j:Int)=some v:=by
 have hj:j<xs.length:=(List.getElem?_eq_some_iff.mp h).1;have e:ixN xs.length (j:Int)=some j:=by
  unfold ixN;rw[if_pos (by omega),if_pos (by omega)];simp
 unfold atI;rw[e];exact h
noncomputable def PlainIx (b:Expr):Prop:=∀o i,subscripted b false o i=operate [o,i] (getItem o i)
noncomputable def IxR (X:Cx) (r:R2):Prop :=
 ∀(value slice:Expr) (pins:List (Addr×Obj)) (s:Shared) (σ:St) (H:Hp) (x y:V) (v u:Value) (Q:VK),Inv X pins σ H s->RelV x v->RelV y u->r x y H Q ->
  subscripted slice false v u=operate [v,u] (getItem v u)->wpAny (model X.prog X.w) X.A (subscriptTail value slice v u) (EP X pins σ Q) X.xe s
noncomputable def MtR (X:Cx) (id:String) (r:V->List V->Hp->VK->Prop):Prop :=
 ∀(pins:List (Addr×Obj)) (s:Shared) (σ:St) (H:Hp) (x:V) (xs:List V) (v:Value) (us:List Value) (Q:VK),Inv X pins σ H s->RelV x v->Vals xs us->r x xs H Q ->
  wpAny (model X.prog X.w) X.A (call (.builtin id) (v::us)) (EP X pins σ Q) X.xe s
section
variable {X:Cx} {a b:Expr} {ta tb:TE} {pos:Pos}
theorem IxR.or {r r':R2} (h:IxR X r) (h':IxR X r'):IxR X (fun x y H Q=>r x y H Q∨r' x y H Q):=by
 intro value slice pins s σ H x y v u Q I rx ry q hs;rcases q with q|q
 ·exact h value slice pins s σ H x y v u Q I rx ry q hs
 ·exact h' value slice pins s σ H x y v u Q I rx ry q hs
theorem pe_ix {r:R2} (hr:IxR X r) (ha:PE X a ta) (hb:PE X b tb) (hs:PlainIx b):PE X (.Subscript a b pos) (tOp r ta tb):=by
 intro pins s σ H Q I h;exact Subscript_ (binT ha hb I h fun v u s2 x y H2 I2 rx ry q=>hr a b pins s2 σ H2 x y v u Q I2 rx ry q (hs _ _))
noncomputable def rIxL (K:PySem.W.Frag):R2:=fun x y H Q=>∃p xs i v,x=.ref p/\y=.int i/\SqL K H p xs/\atI xs i=some v/\Q v H
noncomputable def rIxT (K:PySem.W.Frag):R2:=fun x y H Q=>∃p xs i v,x=.ref p/\y=.int i/\SqT K H p xs/\atI xs i=some v/\Q v H
noncomputable def rIxS:R2:=fun x y H Q=>∃z i c,x=.str z/\y=.int i/\z.length<=sizeLine/\atI z.cps.toList i=some c/\Q (.str ⟨#[c]⟩) H
theorem ix_list:IxR X (rIxL X.K):=by
 intro value slice pins s σ H x y v u Q I rx ry h hs;obtain⟨p,xs,i,z,rfl,rfl,hq,he,q⟩:=h;cases rx;obtain⟨t,rfl⟩:=ry;obtain⟨its,r,pl,hz⟩:=I.list hq;obtain⟨j,h1,h2,h3,h4,h5⟩:=atI_get he;obtain⟨w,ew,rw'⟩:=r.get h2;have hl:=r.length;have hn:=line63;have fin:EP X pins σ Q w s:=⟨z,H,I,rw',q⟩;by_cases h0:0<=i
 ·have hj:i.toNat=j:=by
   rw[seqIndex_of h0 h5]at h1;exact Option.some.inj h1
  exact item_listR pl.isList h0 (by omega) (by rw[hj];simpa using ew) fin hs
 ·have hj:(i+(its.toArray.size:Int)).toNat=j:=by
   rw[seqIndex_neg (by omega) h4]at h1
   rw[List.size_toArray,← hl];exact Option.some.inj h1
  exact subscriptTail_builtinR (x:=w) pl.isList.typeIs slot_list_getitem.lookup
   (wpAny_getItem_list_neg (Q:=fun r s'=>r=w/\EP X pins σ Q r s') pl.isList (by omega) (by rw[List.size_toArray]<;>omega) (by omega) (by rw[hj];simpa using ew) ⟨rfl,fin⟩) hs
theorem ix_tup:IxR X (rIxT X.K):=by
 intro value slice pins s σ H x y v u Q I rx ry h hs;obtain⟨p,xs,i,z,rfl,rfl,hq,he,q⟩:=h;cases rx;obtain⟨t,rfl⟩:=ry;obtain⟨its,r,pl,hz⟩:=I.tuple hq;obtain⟨j,h1,h2,h3,h4,h5⟩:=atI_get he;obtain⟨w,ew,rw'⟩:=r.get h2;have hl:=r.length;have hn:=line63;have fin:EP X pins σ Q w s:=⟨z,H,I,rw',q⟩;exact subscriptTail_builtinR (x:=w) pl.typeIs slot_tuple_getitem.lookup
  (getItem_tuple (j:=j) (Q:=fun r s'=>r=w/\EP X pins σ Q r s') pl (by omega) (by omega) (by rw[List.size_toArray,← hl];exact h1) (by simpa using ew) ⟨rfl,fin⟩) hs
theorem ix_str:IxR X rIxS:=by
 intro value slice pins s σ H x y v u Q I rx ry h hs;obtain⟨z,i,c,rfl,rfl,hz,he,q⟩:=h;obtain⟨t,rfl⟩:=rx;obtain⟨t',rfl⟩:=ry;obtain⟨j,h1,h2,h3,h4,h5⟩:=atI_get he;have hl:z.cps.toList.length=z.length:=by simp[Str.length]
 rw[hl]at h1 h4 h5;have hn:=line63
 exact tail_any (typeIs_str s z t) slot_str_getitem.lookup (getItem_str (c:=c) (by
  have e1:decide (i < -(2 ^ 63:Int))=false:=decide_eq_false (by omega)
  have e2:decide (i ≥ 2 ^ 63)=false:=decide_eq_false (by omega)
  rw[e1,e2,Bool.or_false]) (by rw[h1];simpa using h2) ⟨.str ⟨#[c]⟩,H,I.tok _,⟨_,rfl⟩,q⟩) hs
noncomputable def rIx (K:PySem.W.Frag):R2:=fun x y H Q=>rIxL K x y H Q∨rIxT K x y H Q∨rIxS x y H Q
theorem ix_seq:IxR X (rIx X.K):=ix_list.or (ix_tup.or ix_str)
theorem mapSeq_set (its:List Value) (n j:Nat) (u:Value):Obj.mapSeq (·.setIfInBounds j u) { cls:=.type "list",data:=.seq its.toArray n }={ cls:=.type "list",data:=.seq (its.set j u).toArray n }:=by
 simp[Obj.mapSeq]
theorem Inv.lst {pins:List (Addr×Obj)} {σ:St} {H:Hp} {s:Shared} {p:Addr} {xs:List V} (I:Inv X pins σ H s) (h:H p=some (.lst xs)) :
  ∃(its:List Value) (n:Nat),Vals xs its/\s.heap.get? p=some { cls:=.type "list",data:=.seq its.toArray n }/\xs.length<=sizeLine:=by
 obtain⟨z,its,n,r,e⟩:=I.hok p _ h;exact⟨its,n,r,e,z⟩
theorem Inv.lstUpd {pins:List (Addr×Obj)} {σ:St} {H:Hp} {s:Shared} {p:Addr} {xs ys:List V} {its its':List Value} {n n':Nat} {f:Obj->Obj} (I:Inv X pins σ H s) (h:H p=some (.lst xs))
  (ho:s.heap.get? p=some { cls:=.type "list",data:=.seq its.toArray n }) (hf:f { cls:=.type "list",data:=.seq its.toArray n }={ cls:=.type "list",data:=.seq its'.toArray n' }) (r:Vals ys its') (hz:ys.length<=sizeLine) (t:Nat) :
  Inv X pins σ (upd H p (.lst ys)) { s with heap:=s.heap.update p f,toks:=t }:=by
 have e:(s.heap.update p f).get? p=some { cls:=.type "list",data:=.seq its'.toArray n' }:=by
  rw[Heap.get?_update_self f ho (by rw[hf]<;>rfl),hf]
 refine I.write (x:=p) (e:=p) (by rw[h];trivial) (.inl rfl) (fun b u hb q=>(Heap.get?_update_other _ _ (Ne.symm hb)).trans q) ⟨_,e⟩ ?_
 exact⟨hz,its',n',r,e⟩
noncomputable def rSetL:V->V->V->Hp->(Hp->Prop)->Prop:=fun o i v H Q=>∃p xs k j,o=.ref p/\i=.int k/\H p=some (.lst xs)/\ixN xs.length k=some j/\Q (upd H p (.lst (xs.set j v)))
theorem set_list:PSet X rSetL:=by
 intro pins s σ H o i v ov iv u Q I ro ri rv h;obtain⟨p,xs,k,j,rfl,rfl,hp,hj,q⟩:=h;cases ro;obtain⟨t,rfl⟩:=ri;obtain⟨its,n,r,ho,hz⟩:=I.lst hp;obtain⟨h1,h2,h3,h4⟩:=ixN_seq hj;have hl:=r.length;have hn:=line63;have I':Inv X pins σ (upd H p (.lst (xs.set j v))) { s with heap:=s.heap.update p (Obj.mapSeq (·.setIfInBounds j u)) } :=
  I.lstUpd hp ho (mapSeq_set its n j u) (r.set rv j) (by rw[List.length_set];exact hz) s.toks
 by_cases h0:0<=k
 ·have hk:k.toNat=j:=by
   rw[seqIndex_of h0 h4]at h1;exact Option.some.inj h1
  exact PySem.W.ki_setAt ho h0 (by omega) (by rw[List.size_toArray,← hl];exact h4) (by rw[hk];exact⟨_,I',q⟩)
 ·have hk:(k+(its.toArray.size:Int)).toNat=j:=by
   rw[seqIndex_neg (by omega) h3]at h1
   rw[List.size_toArray,← hl];exact Option.some.inj h1
  exact PySem.W.ki_setBack ho (by omega) (by rw[List.size_toArray,← hl];exact h3) (by omega) (by rw[hk];exact⟨_,I',q⟩)
theorem slice_bounds (lo hi:Option Int) (n:Nat):(sliceBounds lo hi none n).1=((HT.sIx n 0 lo:Nat):Int)/\(sliceBounds lo hi none n).2.1=((HT.sIx n n hi:Nat):Int)/\(sliceBounds lo hi none n).2.2=1:=by
 refine⟨?_,?_,rfl⟩
 ·cases lo with
  | none=>simp[sliceBounds,HT.sIx]
  | some i =>
   simp only[sliceBounds,HT.sIx,Option.getD_none,show(1:Int) > 0 by decide,if_true]
   by_cases h:i<0
   ·simp only[h,if_true]<;>omega
   ·simp only[h,if_false]<;>omega
 ·cases hi with
  | none=>simp[sliceBounds,HT.sIx]
  | some i =>
   simp only[sliceBounds,HT.sIx,Option.getD_none,show(1:Int) > 0 by decide,if_true]
   by_cases h:i<0
   ·simp only[h,if_true]<;>omega
   ·simp only[h,if_false]<;>omega
theorem slicePick_cut (its:List Value) (lo hi:Option Int):slicePick its.toArray lo hi none=((its.drop (HT.sIx its.length 0 lo)).take (HT.sIx its.length its.length hi-HT.sIx its.length 0 lo)).toArray:=by
 obtain⟨h1,h2,h3⟩:=slice_bounds lo hi its.toArray.size;unfold slicePick;rw[h1,h2,h3];simp only[sliceRange_one,pick_run,List.size_toArray]<;>rfl
noncomputable def rSlL (K:PySem.W.Frag):V->Option Int->Option Int->Hp->VK->Prop:=fun x lo hi H Q=>∃a xs,x=.ref a/\SqL K H a xs/\∀p,H p=none->Q (.ref p) (upd H p (.lst (cutV xs lo hi)))
theorem sl_list:SlR X (rSlL X.K):=by
 intro pins s σ H x v vl vu lo hi sl Q I rx hs pl pu h;obtain⟨a,xs,rfl,hx,q⟩:=h;cases rx;obtain⟨its,r,ht,hz⟩:=I.list hx;have hlen:=r.length;refine⟨"list",_,slot_list_getitem.lookup,ht.isList.typeIs,?_⟩;refine wpAny_getItem_list_slice ht.isList hs pl pu .none (by simp) ?_ (by rw[List.size_toArray]<;>omega)
 rw[slicePick_cut,← hlen];refine⟨.ref s.heap.objs.size,_,I.laid (t':=s.toks) (o:=.lst (cutV xs lo hi)) (fun b ob q=>Heap.get?_push_of_some _ q) (Nat.le_refl _) ?_,rfl,q _ (I.hok.fresh (Nat.le_refl _))⟩;exact⟨Nat.le_trans (cutV_length xs lo hi) hz,_,0,(r.drop (HT.sIx xs.length 0 lo)).take (HT.sIx xs.length xs.length hi-HT.sIx xs.length 0 lo),Heap.get?_push_size _ rfl⟩
noncomputable def flatV:V->Bool
 | .non=>true
 | .bl _=>true
 | .int _=>true
 | .str _=>true
 | _=>false
noncomputable def eqV:V->V->Bool
 | .non,.non=>true
 | .bl a,.bl b=>a == b
 | .bl a,.int b=>(if a then 1 else 0) == b
 | .int a,.bl b=>a == (if b then 1 else 0)
 | .int a,.int b=>a == b
 | .str a,.str b=>a == b
 | _,_=>false
theorem eqAt_V {A:Around} {s:Shared} {y x:V} {u v:Value} (ry:RelV y u) (rx:RelV x v) (fy:flatV y=true) (fx:flatV x=true):SeqAt.EqAt A s u v (eqV y x):=by
 cases y with
 | non =>
  cases ry;cases x with
  | non=>cases rx;exact SeqAt.EqAt.same _
  | bl b=>cases rx;exact SeqAt.EqAt.none_bool b
  | int b=>obtain⟨t,rfl⟩:=rx;exact SeqAt.EqAt.none_int b t
  | str b=>obtain⟨t,rfl⟩:=rx;exact SeqAt.EqAt.none_str b t
  | _=>exact absurd (show false=true from fx) Bool.false_ne_true
 | bl a =>
  cases ry;cases x with
  | non=>cases rx;exact SeqAt.EqAt.bool_none a
  | bl b=>cases rx;exact SeqAt.EqAt.bool_bool a b
  | int b=>obtain⟨t,rfl⟩:=rx;exact SeqAt.EqAt.bool_int a b t
  | str b=>obtain⟨t,rfl⟩:=rx;exact SeqAt.EqAt.bool_str a b t
  | _=>exact absurd (show false=true from fx) Bool.false_ne_true
 | int a =>
  obtain⟨t',rfl⟩:=ry;cases x with
  | non=>cases rx;exact SeqAt.EqAt.int_none a t'
  | bl b=>cases rx;exact SeqAt.EqAt.int_bool a t' b
  | int b=>obtain⟨t,rfl⟩:=rx;exact SeqAt.EqAt.int_int a t' b t
  | str b=>obtain⟨t,rfl⟩:=rx;exact SeqAt.EqAt.int_str a t' b t
  | _=>exact absurd (show false=true from fx) Bool.false_ne_true
 | str a =>
  obtain⟨t',rfl⟩:=ry;cases x with
  | non=>cases rx;exact SeqAt.EqAt.str_none a t'
  | bl b=>cases rx;exact SeqAt.EqAt.str_bool a t' b
  | int b=>obtain⟨t,rfl⟩:=rx;exact SeqAt.EqAt.str_int a t' b t
  | str b=>obtain⟨t,rfl⟩:=rx;exact SeqAt.EqAt.str_str a t' b t
  | _=>exact absurd (show false=true from fx) Bool.false_ne_true
 | _=>exact absurd (show false=true from fy) Bool.false_ne_true
noncomputable def eqU (x:V) (u:Value):Bool:=match u with
 | .none=>eqV .non x
 | .bool b=>eqV (.bl b) x
 | .int i _=>eqV (.int i) x
 | .str z _=>eqV (.str z) x
 | _=>false
theorem eqU_of {x y:V} {u:Value} (r:RelV y u) (f:flatV y=true):eqU x u=eqV y x:=by
 cases y with
 | non=>cases r;rfl
 | bl b=>cases r;rfl
 | int i=>obtain⟨t,rfl⟩:=r;rfl
 | str z=>obtain⟨t,rfl⟩:=r;rfl
 | _=>exact absurd (show false=true from f) Bool.false_ne_true
theorem any_eqU {x:V}:∀{xs:List V} {us:List Value},Vals xs us->xs.all flatV=true->us.any (eqU x)=xs.any fun y=>eqV y x
 | _,_,.nil,_=>rfl
 | y::xs,u::us,.cons r t,f=>by
  rw[List.all_cons,Bool.and_eq_true]at f;rw[List.any_cons,List.any_cons,eqU_of r f.1,any_eqU t f.2]
theorem mem_eqAt {A:Around} {s:Shared} {x:V} {v:Value} (rx:RelV x v) (fx:flatV x=true):∀{xs:List V} {us:List Value},Vals xs us->xs.all flatV=true->∀u∈us,SeqAt.EqAt A s u v (eqU x u)
 | _,_,.nil,_=>fun u hu=>by cases hu
 | y::xs,u::us,.cons r t,f=>fun u' hu=>by
  rw[List.all_cons,Bool.and_eq_true]at f;rcases List.mem_cons.mp hu with rfl|hu
  ·rw[eqU_of r f.1];exact eqAt_V r rx f.1 fx
  ·exact mem_eqAt rx fx t f.2 u' hu
noncomputable def inV (x:V) (xs:List V):Bool:=xs.any fun y=>eqV y x
noncomputable def rIn (K:PySem.W.Frag) (neg:Bool):R2:=fun x y H Q=>∃p xs,y=.ref p/\(SqL K H p xs∨SqT K H p xs)/\flatV x=true/\xs.all flatV=true/\Q (.bl (if neg then !inV x xs else inV x xs)) H
theorem op_in_seq:OpR X (compareOp .In) (rIn X.K false):=by
 intro pins s σ H x y v u Q I rx ry h;obtain⟨p,xs,rfl,hq,fx,fs,q⟩:=h;cases ry;rcases hq with hq|hq
 ·obtain⟨its,r,pl,hz⟩:=I.list hq;refine SeqAt.in_listAt (eqU x) pl.isList (fun w hw=>mem_eqAt rx fx r fs w (by simpa using hw)) ⟨.bl _,H,I,rfl,?_⟩
  rw[show its.toArray.any (eqU x)=its.any (eqU x) by simp,any_eqU r fs]
  exact q
 ·obtain⟨its,r,pl,hz⟩:=I.tuple hq;refine SeqAt.in_tupleAt (eqU x) pl (fun w hw=>mem_eqAt rx fx r fs w (by simpa using hw)) ⟨.bl _,H,I,rfl,?_⟩
  rw[show its.toArray.any (eqU x)=its.any (eqU x) by simp,any_eqU r fs]
  exact q
theorem call_len_seq:CallR X (.builtin "len") (fun xs H Q=>∃p ys,xs=[.ref p]/\(SqL X.K H p ys∨SqT X.K H p ys)/\Q (.int ys.length) H):=by
 intro pins s σ H xs us Q I r h;obtain⟨p,ys,rfl,hq,q⟩:=h;obtain⟨u,rfl,rx⟩:=vals1 r;cases rx;have hn:=line63;rcases hq with hq|hq
 ·obtain⟨its,r',pl,hz⟩:=I.list hq;have hlen:=r'.length;exact Calls.call_len_list pl.isList (by simp only[List.size_toArray]<;>omega) ⟨.int ys.length,H,I.tok _,⟨s.toks+1,by rw[List.size_toArray,hlen]⟩,q⟩
 ·obtain⟨its,r',pl,hz⟩:=I.tuple hq;have hlen:=r'.length;exact len_tuple pl (by simp only[List.size_toArray]<;>omega) ⟨.int ys.length,H,I.tok _,⟨s.toks+1,by rw[List.size_toArray,hlen]⟩,q⟩
theorem call_len_str:CallR X (.builtin "len") (fun xs H Q=>∃z,xs=[.str z]/\z.length<=sizeLine/\Q (.int z.length) H):=by
 intro pins s σ H xs us Q I r h;obtain⟨z,rfl,hz,q⟩:=h;obtain⟨u,rfl,t,rfl⟩:=vals1 r;have hn:=line63;exact len_str (by omega) ⟨.int z.length,H,I.tok _,⟨_,rfl⟩,q⟩
theorem CallR.or {f:Value} {r r':List V->Hp->VK->Prop} (h:CallR X f r) (h':CallR X f r'):CallR X f (fun xs H Q=>r xs H Q∨r' xs H Q):=by
 intro pins s σ H xs us Q I rs q;rcases q with q|q
 ·exact h pins s σ H xs us Q I rs q
 ·exact h' pins s σ H xs us Q I rs q
theorem call_list_of:CallR X (.type "list") (fun xs H Q=>∃p ys,xs=[.ref p]/\(SqL X.K H p ys∨SqT X.K H p ys)/\∀l,H l=none->Q (.ref l) (upd H l (.lst ys))):=by
 intro pins s σ H xs us Q I r h;obtain⟨p,ys,rfl,hq,q⟩:=h;obtain⟨u,rfl,rx⟩:=vals1 r;cases rx;have fin:∀(its:List Value),Vals ys its->ys.length<=sizeLine->∀(h':Heap) (c':Nat),(∀b o',s.heap.get? b=some o'->h'.get? b=some o') ->
   h'.get? s.heap.objs.size=some { cls:=.type "list",dict:=none,data:=.seq its.toArray c',slots:=#[] }->EP X pins σ Q (.ref s.heap.objs.size) { s with heap:=h' }:=fun its r' hz h' c' kp e =>
  ⟨.ref s.heap.objs.size,_,I.laid (t':=s.toks) kp (Nat.le_refl _) (show ObjOk X.prog X.w _ h' _ (.lst ys) from⟨hz,its,c',r',e⟩),rfl,q _ (I.hok.fresh (Nat.le_refl _))⟩
 rcases hq with hq|hq
 ·obtain⟨its,r',pl,hz⟩:=I.list hq;have hlen:=r'.length;obtain⟨o,ho,hc,n,hd⟩:=pl.isList;exact call_list_seq p (.inl rfl) ho hc hd (fun h' c' kp e=>fin its r' hz h' c' kp e) (by simp only[List.size_toArray]<;>omega)
 ·obtain⟨its,r',pl,hz⟩:=I.tuple hq;have hlen:=r'.length;obtain⟨o,ho,hc,n,hd⟩:=pl;exact call_list_seq p (.inr rfl) ho hc hd (fun h' c' kp e=>fin its r' hz h' c' kp e) (by simp only[List.size_toArray]<;>omega)
noncomputable def tyV (K:PySem.W.Frag) (T:String) (x:V) (H:Hp):Prop:=match x with
 | .str _=>T="str"
 | .int _=>T="int"
 | .ref p=>(T="list"/\∃xs,SqL K H p xs)∨(T="tuple"/\∃o,K.lookup p=some o/\o.cls=.type "tuple"/\o.dict=none) ∨
   (T="dict"/\((∃kvs,H p=some (.dK kvs))∨∃ep kvs,H p=some (.dT ep kvs)))∨(T="set"/\∃S n,H p=some (.set S n))
 | _=>False
theorem tyV_is {pins:List (Addr×Obj)} {σ:St} {H:Hp} {s:Shared} {T:String} {x:V} {v:Value} (I:Inv X pins σ H s) (r:RelV x v) (ty:tyV X.K T x H) :
  s.TypeIs v T/\∀a,v=.ref a->∃ob,s.heap.get? a=some ob/\ob.dict=none:=by
 cases x with
 | str z =>
  obtain⟨t,rfl⟩:=r;cases (show T="str" from ty);exact⟨typeIs_str s z t,fun _ e=>nomatch e⟩
 | int i =>
  obtain⟨t,rfl⟩:=r;cases (show T="int" from ty);exact⟨typeIs_int s i t,fun _ e=>nomatch e⟩
 | ref p =>
  cases r;rcases ty with⟨rfl,xs,hq⟩|⟨rfl,o,hk,hc,hd⟩|⟨rfl,hk⟩|⟨rfl,S,n,hk⟩
  ·obtain⟨its,_,pl,_⟩:=I.list hq;refine⟨pl.isList.typeIs,fun a e=>?_⟩;cases e;obtain⟨o,n,e,c,hd,_⟩:=pl;exact⟨o,e,hd⟩
  ·refine⟨⟨o,I.kIn p o hk,hc⟩,fun a e=>?_⟩;cases e;exact⟨o,I.kIn _ o hk,hd⟩
  ·have z:∃o,s.heap.get? p=some o/\o.ExactDict:=by
    rcases hk with⟨kvs,hk⟩|⟨ep,kvs,hk⟩
    ·obtain⟨_,_,_,_,o,_,_,e,ex,_⟩:=I.hok p _ hk;exact⟨o,e,ex⟩
    ·obtain⟨_,_,_,_,_,o,_,e,ex,_⟩:=I.hok p _ hk;exact⟨o,e,ex⟩
   obtain⟨o,e,ex⟩:=z;refine⟨⟨o,e,ex.1⟩,fun a e2=>?_⟩;cases e2;exact⟨o,e,ex.2.1⟩
  ·obtain⟨o,_,_,_,e,ex,_⟩:=I.hok p _ hk;refine⟨⟨o,e,ex.1⟩,fun a e2=>?_⟩;cases e2;exact⟨o,e,ex.2.1⟩
 | _=>exact False.elim ty
noncomputable def tBM (K:PySem.W.Frag) (T:String) (r:V->List V->Hp->VK->Prop) (to:TE) (t:TA):TE:=fun σ H Q=>to σ H fun x H1=>tyV K T x H1/\t σ H1 fun xs H2=>r x xs H2 Q
variable {o e:Expr} {es:List Expr} {to:TE} {t:TA} {name:Str} {apos cpos:Pos} {T id:String} {r:V->List V->Hp->VK->Prop}
theorem pe_bm (pa:PlainAttrs T) (slot:Slot T name id) (hty:typeOf (.builtin id)=pure (.type "method_descriptor")) (hm:MtR X id r) (ho:PE X o to) (ha:PA X (e::es) t)
  (hbase:attributeBase o name X.env (eval o X.env)=eval o X.env:=by rfl)
  (hfew:((backTo cpos (starEach (e::es) X.env)).all (fun x=>!x.1)&&(backToKw cpos (keywordEach [] X.env)).all (fun x=>x.1.isSome)
   && decide ((e::es).length+([]:List Keyword).length+(if ([]:List Keyword).isEmpty then 0 else 1)<30))=true:=by rfl)
  (hline:(apos.endLine == cpos.line)=true:=by rfl) (hs:starEach (e::es) X.env=(false,eval e X.env)::starEach es X.env:=by rfl) (hplain:(backTo cpos (starEach es X.env)).any (·.1)=false:=by rfl) :
  PE X (.Call (.Attribute o name apos) (e::es) [] cpos) (tBM X.K T r to t):=by
 intro pins s σ H Q I h;refine wpAny_Call_method_late hbase hfew hline rfl (thn (ho pins s σ H _ I h) fun v s1 ⟨x,H1,I1,r1,ty,q1⟩=>?_);obtain⟨h1,h2⟩:=tyV_is I1 r1 ty;refine⟨T,id,pa,slot,hty,h1,h2,?_⟩;have hA:=ha cpos pins s1 σ H1 _ I1 q1;rw[hs]at hA ⊢;refine Calls.callWith_builtin (by show(false||(backTo cpos (starEach es X.env)).any (·.1))=false;rw[hplain]<;>rfl) (Calls.evalArgs_plain ?_)
 exact thn hA fun us s2 ⟨vs,H2,I2,r2,q2⟩=>hm pins s2 σ H2 x vs v us Q I2 r1 r2 q2
/- xs.append(e),list.index on a module's tuple .. are MtR facts of 06m -/
end
end L2
namespace L2
open PySem PySem.Spec PyProof.Rows
noncomputable def MtM (X:Cx) (id:String) (r:V->List V->Hp->VK->Prop):Prop :=
 ∀(pins:List (Addr×Obj)) (s:Shared) (σ:St) (H:Hp) (x:V) (xs:List V) (v:Value) (us:List Value) (Q:VK),Inv X pins σ H s->RelV x v->Vals xs us->r x xs H Q ->
  wpAny (model X.prog X.w) X.A (call (.builtin id) (v::us)) (EP X pins σ Q) X.xe s
theorem Vals.one:∀{x:V} {us:List Value},Vals [x] us->∃u,us=[u]/\RelV x u
 | _,_,.cons r .nil=>⟨_,rfl,r⟩
theorem Vals.eraseIdx:∀{xs:List V} {us:List Value} (i:Nat),Vals xs us->Vals (xs.eraseIdx i) (us.eraseIdx i)
 | _,_,_,.nil=>.nil
 | _,_,0,.cons _ t=>t
 | _,_,i+1,.cons r t=>.cons r (Vals.eraseIdx i t)
theorem len_erase {α:Type}:∀(l:List α) (i:Nat),(l.eraseIdx i).length<=l.length
 | [],_=>Nat.le_refl _
 | _::_,0=>Nat.le_succ _
 | _::r,i+1=>Nat.succ_le_succ (len_erase r i)
section
variable {X:Cx} {pins:List (Addr×Obj)} {σ:St} {H:Hp} {s:Shared} {l b:Addr} {xs ys zs:List V}
theorem Inv.lset {its its':List Value} {n:Nat} {f:Array Value->Array Value} {t':Nat} (I:Inv X pins σ H s) (hH:H l=some (.lst xs))
  (e:s.heap.get? l=some { cls:=.type "list",data:=.seq its.toArray n }) (hf:f its.toArray=its'.toArray) (hv:Vals ys its') (hz:ys.length<=sizeLine) :
  Inv X pins σ (upd H l (.lst ys)) { s with heap:=s.heap.update l (Obj.mapSeq f),toks:=t' }:=by
 have q:=PySem.IsL.update e f;rw[hf]at q;refine I.write (x:=l) (e:=l) (by rw[hH];exact trivial) (.inl rfl) (fun b' u hb hu=>(Heap.get?_update_other s.heap (Obj.mapSeq f) (Ne.symm hb)).trans hu) ⟨_,q⟩ ?_
 exact⟨hz,its',_,hv,q⟩
theorem Inv.lnew {its:List Value} {t':Nat} (I:Inv X pins σ H s) (hv:Vals ys its) (hz:ys.length<=sizeLine) :
  Inv X pins σ (upd H s.heap.objs.size (.lst ys)) { s with heap:=s.heap.push { cls:=.type "list",data:=.seq its.toArray },toks:=t' } :=
 I.laid (fun _ _ q=>Heap.get?_push_of_some _ q) (Nat.le_refl _) ⟨hz,its,0,hv,Heap.get?_push_size _ rfl⟩
theorem Inv.fresh (I:Inv X pins σ H s):H s.heap.objs.size=none:=I.hok.fresh (Nat.le_refl _)
theorem Inv.lstM (I:Inv X pins σ H s) (hH:H l=some (.lst xs)):xs.length<=sizeLine/\∃(its:List Value) (n:Nat),Vals xs its/\xs.length=its.length/\s.heap.get? l=some { cls:=.type "list",data:=.seq its.toArray n }:=by
 obtain⟨z,its,n,r,e⟩:=I.hok l _ hH;exact⟨z,its,n,r,r.length,e⟩
theorem notLongL {n:Nat} (h:n<=sizeLine):Builtin.List.listTooLong n=false:=by
 unfold Builtin.List.listTooLong;exact decide_eq_false (by omega)
end
section
variable {X:Cx}
noncomputable def rAppend:V->List V->Hp->VK->Prop:=fun x vs H Q=>∃l xs y,x=.ref l/\vs=[y]/\H l=some (.lst xs)/\xs.length<sizeLine/\Q .non (upd H l (.lst (xs++[y])))
theorem mt_append:MtM X "list.append" rAppend:=by
 intro pins s σ H x vs v us Q I rx rv h;obtain⟨l,xs,y,rfl,rfl,hH,hz,q⟩:=h;cases rx;obtain⟨u,rfl,ru⟩:=rv.one;obtain⟨z,its,n,r,hl,e⟩:=I.lstM hH;refine call_meets F.slot_list_append ⟨_,e,rfl⟩ F.entry_list_append (F.args_list_append_2 _ _) (PySem.list_append l its.toArray n u (by rw[List.size_toArray];omega)) ⟨e,?_⟩
 refine⟨.non,_,I.lset (its':=its++[u]) hH e (by simp) (r.append (.cons ru .nil)) ?_,rfl,q⟩
 rw[List.length_append,List.length_singleton];omega
noncomputable def rExtend:V->List V->Hp->VK->Prop:=fun x vs H Q=>∃l b xs zs,x=.ref l/\vs=[.ref b]/\H l=some (.lst xs)/\H b=some (.lst zs)/\xs.length+zs.length<=sizeLine/\Q .non (upd H l (.lst (xs++zs)))
theorem mt_extend:MtM X "list.extend" rExtend:=by
 intro pins s σ H x vs v us Q I rx rv h;obtain⟨l,b,xs,zs,rfl,rfl,hH,hB,hz,q⟩:=h;cases rx;obtain⟨u,rfl,ru⟩:=rv.one;cases ru;obtain⟨z,its,n,r,hl,e⟩:=I.lstM hH;obtain⟨z2,its2,n2,r2,hl2,e2⟩:=I.lstM hB;have hsz:its.toArray.size+its2.toArray.size<=sizeLine:=by rw[List.size_toArray,List.size_toArray];omega
 have hlong:¬ (!its.toArray.isEmpty&&Builtin.List.listTooLong (its.toArray.size+its2.toArray.size))=true:=by
  rw[notLongL hsz,Bool.and_false];exact Bool.false_ne_true
 refine call_meets F.slot_list_extend ⟨_,e,rfl⟩ F.entry_list_extend (F.args_list_extend_2 _ _)
  (AutoSeq1.list_extend_list_list_0 l its.toArray n b its2.toArray n2 hlong (by rw[List.size_toArray];omega) (by omega)) ⟨e,e2,?_⟩
 refine⟨.non,_,I.lset (its':=its++its2) hH e (by simp) (r.append r2) ?_,rfl,q⟩
 rw[List.length_append];omega
noncomputable def rPopAt:V->List V->Hp->VK->Prop:=fun x vs H Q=>∃l xs i k y,x=.ref l/\vs=[.int i]/\H l=some (.lst xs)/\-(2 ^ 63)<=i/\i<2 ^ 63/\seqIndex? i xs.length=some k/\xs[k]?=some y/\Q y (upd H l (.lst (xs.eraseIdx k)))
theorem mt_popAt:MtM X "list.pop" rPopAt:=by
 intro pins s σ H x vs v us Q I rx rv h;obtain⟨l,xs,i,k,y,rfl,rfl,hH,h1,h2,hk,hy,q⟩:=h;cases rx;obtain⟨u,rfl,ru⟩:=rv.one;obtain⟨t,rfl⟩:=ru;obtain⟨z,its,n,r,hl,e⟩:=I.lstM hH;obtain⟨w,hw,rw'⟩:=r.get hy;refine call_meets F.slot_list_pop ⟨_,e,rfl⟩ F.entry_list_pop (F.args_list_pop_2 _ _)
  (MeetsSeq.list_pop_at l its.toArray n i t k w (fitsIndex_both h1 h2) (by rw[List.size_toArray,← hl];exact hk) (by rw[← Array.getElem?_toList];exact hw) (by rw[List.size_toArray];omega)) ⟨e,?_⟩
 refine⟨y,_,I.lset (its':=its.eraseIdx k) hH e ?_ (r.eraseIdx k) ?_,rw',q⟩
 ·show its.toArray.eraseIdxIfInBounds k=(its.eraseIdx k).toArray;rw[List.eraseIdxIfInBounds_toArray]
 ·have:=len_erase xs k;omega
noncomputable def rCat:R2:=fun x y H Q=>∃l b xs zs,x=.ref l/\y=.ref b/\H l=some (.lst xs)/\H b=some (.lst zs)/\xs.length+zs.length<=sizeLine/\∀p,H p=none->Q (.ref p) (upd H p (.lst (xs++zs)))
theorem op_cat:OpR X (binaryOp .Add) rCat:=by
 intro pins s σ H x y v u Q I rx ry h;obtain⟨l,b,xs,zs,rfl,rfl,hH,hB,hz,q⟩:=h;cases rx;cases ry;obtain⟨z,its,n,r,hl,e⟩:=I.lstM hH;obtain⟨z2,its2,n2,r2,hl2,e2⟩:=I.lstM hB;refine PySem.P.add_list e e2 ?_ (by rw[List.size_toArray,List.size_toArray];omega)
 have ea:its.toArray++its2.toArray=(its++its2).toArray:=by simp
 rw[ea];exact⟨.ref _,_,I.lnew (t':=s.toks) (r.append r2) (by rw[List.length_append];omega),rfl,q _ I.fresh⟩
end
end L2
namespace Att
open PySem PySem.W PySem.Calls PyProof.Rows
theorem ints_of_wellAll {P:Params} {h:Heap}:∀(ns:List Int) (vs:List Value),WellAll P h vs (ns.map WData.int)->IntsAre vs ns:=by
 intro ns;induction ns with
 | nil =>
  intro vs w;rw[List.map_nil]at w;cases w;exact .nil
 | cons n ns ih =>
  intro vs w;rw[List.map_cons]at w;cases w with
  | cons a b =>
   cases a;exact .cons _ _ (ih _ b)
theorem script_of {l:OpenLaw} {n:Nat} (hn:l.most=some n) {P:Params} {h:Heap} {args:List WData} {vals:List Value}
  (hpre:l.row.toRowW.claim.pre args=true) (hwl:WellAll P h vals args) :
  ∃a vs ns,vals=[Value.ref a]/\args=[WData.list (ns.map WData.int)]/\h.get? a=some { cls:=.type "list",data:=.seq vs.toArray }/\IntsAre vs ns/\ns.length<=n:=by
 have hsh:WShape.hasAll [] args [.list .int]=true:=(pre_splitW hpre).1;have hc:l.pre.holds [] { args:=args }=true:=(pre_splitW hpre).2;obtain⟨d,r,rfl,h1,h2⟩:=hasAllW_cons hsh;obtain rfl:=hasAllW_nil h2;obtain⟨xs,rfl,h3⟩:=hasW_list h1;obtain⟨ns,rfl⟩:=items_int h3;have hlen:ns.length<=n:=by
  unfold OpenLaw.pre at hc;have h4:(WTm.not (.lt (.lit (.int (n:Int))) (.len (.arg 0)))).holds [] { args:=[.list (ns.map .int)] }=true:=by
   have h4:=(holds_andW hc).1;rw[hn]at h4;exact h4
  have h5:=condW_of h4 (w_not (w_lt w_lit (w_len_list (w_arg rfl))));rw[List.length_map]at h5;refine Nat.le_of_not_lt fun q=>?_;have q':(n:Int)<((ns.length:Nat):Int):=by omega
  first
   | (rw[decide_eq_true q']at h5;exact absurd h5 (by decide))
   | (simp at h5;omega)
 cases hwl with
 | cons w1 w2 =>
  cases w2;cases w1 with
  | list ho hall=>exact⟨_,_,ns,rfl,rfl,ho,ints_of_wellAll ns _ hall,hlen⟩
theorem post_true (l:OpenLaw) (args:List WData):l.row.toRowW.claim.post args (.bool true) args=true :=
 postW_of (r:=l.row.toRowW) (X:=(true == true))
  (show WShape.has [] (.bool true) .bool=true by first|rfl|decide|simp[WShape.has,WShape.arms,WShape.armsAll])
  (show(WTm.eq .res (.lit (.bool true))).value [] { args:=args,res:=some (.bool true),after:=args }=some (.bool (true == true)) from w_eq_bool (w_res rfl) w_lit) rfl
theorem attach_call {l:OpenLaw} {n:Nat} {q:Program} {loose:List Str} {XP:(Str->Option Value)->Heap->Prop} {YP:World->Heap->Prop} {d:DefRec}
  (hn:l.most=some n) (hdf:d.params.defaults=[])
  (call:∀(w:World) (s₀ s₁:Shared) (mg mb:Str->Option Value) (fa:Addr) (o:Obj) (pm cd doc:Value) (a:Addr) (vs:List Value) (ns:List Int),
   Ground q loose [] XP w s₀ mg mb s₁.heap->YP w s₁.heap ->
   s₁.heap.get? fa=some o->o.data=.func (docDef d.name d.params d.body d.scope pm cd doc)->s₁.heap.CodeRec cd d.name->mg d.name=some (.ref fa) ->
   s₁.heap.get? a=some { cls:=.type "list",data:=.seq vs.toArray }->IntsAre vs ns->ns.length<=n->s₁.gens=#[] ->
   codeAny (model l.prog w) callerA (.call (.ref fa) ⟨[.ref a],[]⟩) (fun r s'=>r=.ok (.ret (.bool true))/\OldK s₁.heap s'.heap/\s'.os=s₁.os/\AllBare s'.gens) s₁) :
  WalkO q loose XP YP l.row.toRowW d [] (fun f vs=>PySem.call f vs):=by
 intro w s₀ s₁ mg mb G Y fa o pm cd doc dV kV ho hd hcd hD hmg hg args vals as hpre hlay hrd hwl hlo;obtain rfl:dV=.none:=Dflts.none hD hdf;obtain rfl:kV=.none:=Dflts.noKw hD;obtain⟨a,vs,ns,rfl,rfl,hobj,hints,hlen⟩:=script_of hn hpre hwl;refine enter_call (codeAny_mono (call w s₀ s₁ mg mb fa o pm cd doc a vs ns G Y ho (fd_plain hd) hcd hmg hobj hints hlen hg) fun r s' hq=>?_);obtain⟨rfl,h2,h3,h4⟩:=hq;exact⟨.inl ⟨.bool true,.bool true,[],rfl,fun _=>rfl,.bool true,post_true l _,fun _=>⟨List.Pairwise.nil,fun _ hm=>(nomatch hm)⟩⟩,h2,h3,h4⟩
end Att
namespace L2
open PySem PySem.Spec PyProof.Rows
theorem vals_ints:∀{vs:List Value} {ns:List Int},IntsAre vs ns->Vals (ns.map V.int) vs
 | _,_,.nil=>.nil
 | _,_,.cons n t h=>.cons ⟨t,rfl⟩ (vals_ints h)
noncomputable def Only (H:Hp):Prop:=∀b,H b=none∨∃o xs,H b=some (.frz o (.lst xs))
theorem law_call {P:Program} {w:World} {K:PySem.W.Frag} {mg mb:Str->Option Value} {CX:CXT} {k:Nat} {fa a:Addr} {fd:FuncData} {x:Str} {sp:Sp} {s₁:Shared} {vs:List Value} {ns:List Int}
  (KX:K.In s₁.heap) (hns:s₁.heap.Ns mainGlobals mg) (hb:s₁.heap.Ns builtinsNs mb) (hbb:∀x:Str,x≠"__name__"->mb x=bootBuiltins x) (hlim:s₁.heap.NoLimit) (hg:s₁.gens=#[])
  (ha:s₁.heap.get? a=some { cls:=.type "list",data:=.seq vs.toArray }) (hi:IntsAre vs ns) (hl:ns.length<=sizeLine) (hr:Room k callerA)
  (F:∀base:Heap,K.In base->base.Ns mainGlobals mg->FnOk P w K mg base CX k fa fd [x] sp) (hbind:∀(s:Shared) (u:Value),BindsTo s fd ⟨[u],[]⟩ [(x,u)])
  (hsp:∀H:Hp,Only H->SqL K H a (ns.map V.int)->sp [.ref a] H (fun v _=>v=.bl true) fun _ _ _=>False)
  (hCX:∀H e s',CX [] H s₁ (fun _ _ _=>False) e s'->False) :
  codeAny (model P w) callerA (.call (.ref fa) ⟨[.ref a],[]⟩) (fun r s'=>r=.ok (.ret (.bool true))/\OldK s₁.heap s'.heap/\s'.os=s₁.os/\AllBare s'.gens) s₁:=by
 have rv:=vals_ints hi;have lenV:=hi.length;have core:∀H:Hp,Only H->SqL K H a (ns.map V.int)->HOk P w H s₁.heap->(∀b,H b≠none->b=a)->(H a≠none->K.lookup a=none) ->
   codeAny (model P w) callerA (.call (.ref fa) ⟨[.ref a],[]⟩) (fun r s'=>r=.ok (.ret (.bool true))/\OldK s₁.heap s'.heap/\s'.os=s₁.os/\AllBare s'.gens) s₁:=by
  intro H hO hS hok hA hK;have base_of:∀{b:Addr} {o:Obj},s₁.heap.get? b=some o->H b=none->(hidT s₁.heap H).get? b=some o:=fun e n=>hidT_get e n;have noA:∀{b:Addr} {o:Obj} {es:Array DictEntry} {ep:Nat},s₁.heap.get? b=some o->o.data=.dict es ep->H b=none:=fun {b o es ep} e d=>by
   cases q:H b with
   | none=>rfl
   | some u =>
    have e':b=a:=hA b (by rw[q];simp)
    subst e';rw[ha]at e;cases e;have d':Data.seq vs.toArray _=Data.dict es ep:=d;cases d'
  have nsK:∀{b:Addr} {m:Str->Option Value},s₁.heap.Ns b m->(hidT s₁.heap H).Ns b m:=fun {b m} ⟨o,es,ep,e,d,r⟩=>⟨o,es,ep,base_of e (noA e d),d,r⟩
  have hKb:K.In (hidT s₁.heap H):=fun b o e=>base_of (KX b o e) (by
   cases q:H b with
   | none=>rfl
   | some u =>
    have e':b=a:=hA b (by rw[q];simp)
    subst e'
    rw[hK (by rw[q];simp)]at e;cases e)
  have hM:Mod K mg (hidT s₁.heap H):=⟨hKb,nsK hns,⟨mb,nsK hb,hbb⟩,let ⟨mc,h1,h2⟩:=hlim;⟨mc,nsK h1,h2⟩⟩;have e0:Env0 P w K mg (hidT s₁.heap H) callerA [] s₁ H:=⟨rfl,hM,fun b o e=>of_hidT e,Nat.le_of_eq (hidT_size _ _),trivial,fun b hb=>absurd (show b∈([]:List Addr) from hb) (by simp),hok,.of_eq hg⟩
  refine codeAny_mono ((F _ hKb (nsK hns)).run callerA [] s₁ H ⟨[.ref a],[]⟩ [.ref a] [.ref a] _ _ hr e0 (hbind s₁ (.ref a)) (.cons rfl .nil) (hsp H hO hS)) fun r s' h=>?_;cases r with
  | error e=>exact(hCX H e s' h).elim
  | ok fl =>
   cases fl with
   | next=>exact False.elim h
   | brk=>exact False.elim h
   | cont=>exact False.elim h
   | ret u =>
    obtain⟨v,H',os,bare,un,hok',r',q⟩:=h;have q':v=.bl true:=q;subst q';obtain rfl:u=Value.bool true:=r';refine⟨rfl,OldK.of_keep fun b o e=>?_,os,bare⟩;cases q:H b with
    | none=>exact un.keep b o e q (by intro z;exact absurd (show b∈([]:List Addr) from z) (by simp)) (by simp)
    | some u =>
     rcases hO b with z|⟨ob,xs,z⟩
     ·rw[q]at z;cases z
     ·have z2:=un.frzs b ob _ z;obtain⟨e1,_⟩:=hok b _ z;obtain⟨e2,_⟩:=hok' b _ z2;rw[e]at e1;cases e1;exact e2
 cases hk:K.lookup a with
 | some o =>
  have e:=KX a o hk;rw[ha]at e;cases e;refine core (fun _=>none) (fun _=>.inl rfl) (.inr ⟨_,vs.toArray,_,hk,rfl,rfl,rfl,by rw[List.size_toArray,lenV];exact hl,by simpa using rv⟩) (fun b u z=>by have z':(none:Option HO)=some u:=z;cases z') (fun b z=>absurd rfl z) fun z=>absurd rfl z
 | none =>
  refine core (fun b=>if b=a then some (.frz { cls:=.type "list",data:=.seq vs.toArray } (.lst (ns.map V.int))) else none) (fun b=>?_) (.inl (.inr ⟨{ cls:=.type "list",data:=.seq vs.toArray },if_pos rfl⟩)) (fun b u z=>?_) (fun b z=>?_) fun _=>hk
  ·by_cases hb:b=a
   ·exact .inr ⟨_,_,if_pos hb⟩
   ·exact .inl (if_neg hb)
  ·by_cases hb:b=a
   ·have z':=(if_pos hb).symm.trans z;cases z';subst hb;exact⟨ha,by rw[List.length_map];exact hl,vs,_,rv,ha⟩
   ·have z':=(if_neg hb).symm.trans z;cases z'
  ·by_cases hb:b=a
   ·exact hb
   ·exact absurd (if_neg hb) z
theorem walk_of {l:PySem.W.OpenLaw} {n k:Nat} {q:Program} {loose:List Str} {XP:(Str->Option Value)->Heap->Prop} {YP:World->Heap->Prop} {d:DefRec} {K:Params->PySem.W.Frag} {CX:World->CXT} {sp:World->Sp} {x:Str}
  (hn:l.most=some n) (hn2:n<=sizeLine) (hdf:d.params.defaults=[]) (hr:Room k callerA)
  (hY:∀(w:World) (h:Heap),YP w h->(K w.params).In h)
  (F:∀(w:World) (mg:Str->Option Value) (fa:Addr) (h:Heap),(K w.params).In h->h.Ns mainGlobals mg->mg d.name=some (.ref fa) ->
   ∃fd:FuncData,(∀(s:Shared) (u:Value),BindsTo s fd ⟨[u],[]⟩ [(x,u)]) /\
    ∀base:Heap,(K w.params).In base->base.Ns mainGlobals mg->FnOk l.prog w (K w.params) mg base (CX w) k fa fd [x] (sp w))
  (hsp:∀(w:World) (H:Hp) (a:Addr) (ns:List Int),ns.length<=n->Only H->SqL (K w.params) H a (ns.map V.int)->sp w [.ref a] H (fun v _=>v=.bl true) fun _ _ _=>False)
  (hCX:∀(w:World) (H:Hp) (s:Shared) (e:Value) (s':Shared),CX w [] H s (fun _ _ _=>False) e s'->False) :
  PySem.W.WalkO q loose XP YP l.row.toRowW d [] (fun f vs=>PySem.call f vs):=by
 refine Att.attach_call hn hdf fun w s₀ s₁ mg mb fa o pm cd doc a vs ns G Y ho hd hcd hmg hobj hints hlen hg=>?_;have KX:=hY w _ Y;obtain⟨fd,hb,hF⟩:=F w mg fa _ KX G.T.g hmg;exact law_call KX G.T.g G.T.b G.T.builtins G.T.nolimit hg hobj hints (Nat.le_trans hlen hn2) hr hF hb (fun H hO hS=>hsp w H a ns hlen hO hS) fun H e s'=>hCX w H s₁ e s'
end L2
/- THE LAST THEOREM (shape; LID, My.* are yours):
   My.Adr: a structure of the addresses that your layer names (classes, functions); My.Txt K t: a structure (Prop) of the equations over K;
   My.txt_mk : {K} {implicit addresses ..} (e1 : nsIn K mainGlobals "law" = some (some (.ref f))) (e2 : K.lookup f = some ⟨oc, od, .func (fnOf "law" "law" params body scope dV kV doc pm an cdv ct), sl⟩) (e3 : codeIn K cdv "law" = true) .. : ∃ t, My.Txt K t
set_option maxRecDepth 100000 in
set_option maxHeartbeats 0 in
theorem PySem.Challenge.cw_LID_holds : PySem.Challenge.rw_LID.Holds := by
 w_on;o_law;k_head;(case hw=>w_witness2)
 k_fill
 refine L2.walk_of (l:=PySem.Challenge.rw_LID) (n:=63) (k:=40) (x:="script") (CX:=fun w=>..) (sp:=fun _=>My.sp_law) rfl (by decide) rfl ⟨rfl,by decide,by decide⟩ (fun w h Y=>PySem.W.kIn_of Y) ?F ?S ?C
 case F =>
  intro w mg fa h KX G hmg;have T:∃t,My.Txt (L2.KOf KX) t:=by
   dsimp only[L2.KOf]                          -- K must stand as «<heap const> w.params» for k_is;refine' My.txt_mk ?e1 ?e2 ?e3 ..
   (case e1=>PySem.W.k_is)                    -- in the order: a name -> its address -> its object -> its parts
   (case e2=>PySem.W.k_is)
   ..
  obtain⟨t,T⟩:=T;have e0:=hmg.symm.trans (PySem.W.mg_of KX G T.law);cases e0                                       -- fa is the law's own address;exact⟨_,fun s u=>.of_eq rfl,fun base kb nb=>My.law_fn T kb nb⟩     -- if «.of_eq rfl» comes too early: refine' ⟨_,?b,fun base kb nb=>My.law_fn T kb nb⟩;exact fun s u=>.of_eq rfl
 case S=>exact fun w H a ns hl hO hS=>..
 case C=>exact ..
(the tactic k_is has no namespace: write k_is) -/
namespace L2
open PySem PySem.Spec PyProof.Rows
noncomputable def defArgs (s:Stmt):Arguments:=match s with
 | .FunctionDef _ a _ _ _ _ _ _ _ _=>a
 | _=>{ posonlyargs:=[],args:=[],vararg:=none,kwonlyargs:=[],kw_defaults:=[],kwarg:=none,defaults:=[] }
noncomputable def defBody (s:Stmt):List Stmt:=match s with
 | .FunctionDef _ _ b _ _ _ _ _ _ _=>b
 | _=>[]
noncomputable def defScope (s:Stmt):Scope:=match s with
 | .FunctionDef _ _ _ _ _ _ sc _ _ _=>sc
 | _=>{ kind:=.function,names:=[],isGenerator:=false,isCoroutine:=false }
noncomputable abbrev CX0:CXT:=fun _ _ _ _ _ _=>False
noncomputable abbrev E0:XK:=fun _ _ _=>False
theorem pass0 {X:Cx}:Passes CX0 X E0:=fun _ _ _ _ _ _ _ h=>h.elim
structure Fun (K:PySem.W.Frag) (x qual:Str) (st:Stmt) (f:Addr) (fd:FuncData):Prop where
 ex:∃(oc:Value) (od:Option Addr) (kV doc pm:Value) (an:Option Addr) (cdv ct:Value) (osl:Array (Option Value)),
  fd=PySem.W.fnOf x qual (defArgs st) (defBody st) (defScope st) .none kV doc pm an cdv ct/\K.lookup f=some ⟨oc,od,.func fd,osl⟩/\PySem.W.codeIn K cdv qual=true
 kp:PySem.W.keepIn K (.ref f)=true
section
variable {P:Program} {w:World} {K:PySem.W.Frag} {mg:Str->Option Value} {base:Heap}
theorem Fun.ok {x qual:Str} {st:Stmt} {f:Addr} {fd:FuncData} {N ps:List Str} {k:Nat} {sp:Sp} (F:Fun K x qual st f fd) (S:FnScope N ps (defScope st)) (len:∀vs H Q E,sp vs H Q E->vs.length=ps.length)
  (hbody:∀(cdv:Value) (A:Around) (outer:List Env) (s:Shared) (H:Hp) (vs:List V) (Q:VK) (E:XK),Room k (A.deeper (envOfC qual (defScope st) s.heap.objs.size f cdv))->sp vs H Q E ->
   ∃t,PSs (cxOf CX0 P w K mg base N qual (defScope st) f cdv A outer s H E).nox (defBody st) t/\t { nx:=fun _ H'=>Q .non H',rt:=Q } (start N vs) H):FnOk P w K mg base CX0 (k+1) f fd ps sp:=by
 obtain⟨oc,od,kV,doc,pm,an,cdv,ct,osl,rfl,lk,hcd⟩:=F.ex;refine fn_of lk hcd S len fun A outer s H vs Q E hr hsp=>?_;obtain⟨t,h,q⟩:=hbody cdv A outer s H vs Q E hr hsp;exact⟨t,h.nox,q⟩
theorem Fun.binds {x qual:Str} {st:Stmt} {f:Addr} {fd:FuncData} {ps:List Str} (F:Fun K x qual st f fd)
  (h:∀(kV doc pm:Value) (an:Option Addr) (cdv ct:Value) (us:List Value),us.length=ps.length->bindArgs (PySem.W.fnOf x qual (defArgs st) (defBody st) (defScope st) .none kV doc pm an cdv ct) ⟨us,[]⟩=pure (ps.zip us)):Binds K fd ps []:=by
 obtain⟨oc,od,kV,doc,pm,an,cdv,ct,osl,rfl,lk,hcd⟩:=F.ex;exact .all (h kV doc pm an cdv ct)
theorem fun_mk {x qual:Str} {st:Stmt} {f:Addr} {oc:Value} {od an:Option Addr} {osl:Array (Option Value)} {kV doc pm cdv ct:Value} (l:K.lookup f=some ⟨oc,od,.func (PySem.W.fnOf x qual (defArgs st) (defBody st) (defScope st) .none kV doc pm an cdv ct),osl⟩)
  (c:PySem.W.codeIn K cdv qual=true) (k:PySem.W.keepIn K (.ref f)=true):Fun K x qual st f (PySem.W.fnOf x qual (defArgs st) (defBody st) (defScope st) .none kV doc pm an cdv ct):=⟨⟨oc,od,kV,doc,pm,an,cdv,ct,osl,rfl,l,c⟩,k⟩
end
theorem hu_of {A:Around} {k:Nat} (hr:Room k A):A.units+1<cLine:=Nat.lt_of_le_of_lt (Nat.add_le_add_left (by decide:1<=64) _) hr.units
theorem small1000 {n:Nat} (h:n<=1000):n<sizeLine:=Nat.lt_of_le_of_lt h (by decide)
section
variable {X:Cx}
theorem pv (i:Nat) {x:Str} {pos:Pos} (hN:X.N[i]?=some x:=by rfl) (hv:Vis X.env.scope x:=by first|exact Or.inl rfl|exact Or.inr (Or.inl rfl)|exact Or.inr (Or.inr rfl)) (hd:(x == ("__debug__":Str))=false:=by decide)
  (hcd:(x == ("__classdict__":Str))=false:=by decide):PE X (.Name x pos) (tVar i):=pe_var hN hv hd hcd
end
noncomputable def Same (H H':Hp):Prop:=∀b o,H b=some o->H' b=some o
theorem Same.refl (H:Hp):Same H H:=fun _ _ h=>h
end L2
namespace L2
open PySem PySem.Spec PyProof.Rows
noncomputable def caught (env:Env):List (Str×NameKind)->List (Str×Addr)->List (Str×Addr)
 | [],acc=>acc
 | (n,k)::r,acc=>if k=.free then caught env r ((n,(env.cells.lookup n).getD 0)::acc) else caught env r acc
theorem forIn_caught {env:Env} {f:Str×NameKind->List (Str×Addr)->Sem (ForInStep (List (Str×Addr)))}
  (h1:∀n k cs c,k=NameKind.free->env.cells.lookup n=some c->f (n,k) cs=pure (.yield ((n,c)::cs)))
  (h2:∀n k cs,k≠NameKind.free->f (n,k) cs=pure (.yield cs)) :
  ∀(names:List (Str×NameKind)) (acc:List (Str×Addr)),(∀x∈names,x.2=.free->∃c,env.cells.lookup x.1=some c)->forIn names acc f=pure (caught env names acc)
 | [],_,_=>rfl
 | (n,k)::r,acc,h=>by
  have hr:∀x∈r,x.2=.free->∃c,env.cells.lookup x.1=some c:=fun x hx=>h x (List.mem_cons_of_mem _ hx);by_cases hk:k=.free
  ·obtain⟨c,hc⟩:=h (n,k) List.mem_cons_self hk;have e:caught env ((n,k)::r) acc=caught env r ((n,c)::acc):=by
    show(if k=.free then _ else _)=_;rw[if_pos hk];have hc':env.cells.lookup n=some c:=hc;rw[hc'];rfl
   rw[List.forIn_cons,h1 n k acc c hk hc,pure_bind,e];exact forIn_caught h1 h2 r _ hr
  ·have e:caught env ((n,k)::r) acc=caught env r acc:=by
    show(if k=.free then _ else _)=_;rw[if_neg hk]
   rw[List.forIn_cons,h2 n k acc hk,pure_bind,e];exact forIn_caught h1 h2 r _ hr
theorem closureFor_caught {scope:Scope} {env:Env} (h:∀x∈scope.names,x.2=.free->∃c,env.cells.lookup x.1=some c):closureFor scope env=pure (caught env scope.names []):=by
 simp only[closureFor];have key:=fun f h1 h2=>forIn_caught (env:=env) (f:=f) h1 h2 scope.names [] h
 rw[key _ (fun n k cs c hk hc=>by subst hk;simp[cellOf,hc]) (fun n k cs hk=>by
  have:(k == NameKind.free)=false:=by simpa using hk
  simp only[this,Bool.false_eq_true,if_false])]
 rfl
theorem lookup_cons_ {α β:Type} [BEq α] {x n:α} {k:β} {r:List (α×β)}:List.lookup x ((n,k)::r)=if (x == n)=true then some k else List.lookup x r:=by
 rw[List.lookup_cons];cases x == n<;>rfl
theorem caught_lookup {env:Env} {x:Str} {c:Addr}:∀(names:List (Str×NameKind)) (acc:List (Str×Addr)),(∀x∈names,x.2=.free->∃c,env.cells.lookup x.1=some c) ->
  (∀y c,acc.lookup y=some c->env.cells.lookup y=some c)->(caught env names acc).lookup x=some c->env.cells.lookup x=some c
 | [],acc,_,ha,e=>ha x c e
 | (n,k)::r,acc,h,ha,e=>by
  have hr:∀x∈r,x.2=.free->∃c,env.cells.lookup x.1=some c:=fun x hx=>h x (List.mem_cons_of_mem _ hx);by_cases hk:k=.free
  ·obtain⟨c',hc⟩:=h (n,k) List.mem_cons_self hk;have hc':env.cells.lookup n=some c':=hc;have q:caught env ((n,k)::r) acc=caught env r ((n,c')::acc):=by
    show(if k=.free then _ else _)=_;rw[if_pos hk,hc'];rfl
   rw[q]at e;refine caught_lookup r _ hr (fun y d hy=>?_) e;rw[lookup_cons_]at hy;by_cases hyn:(y == n)=true
   ·rw[if_pos hyn]at hy;have:y=n:=by simpa using hyn
    rw[this,hc',hy]
   ·rw[if_neg hyn]at hy;exact ha y d hy
  ·have q:caught env ((n,k)::r) acc=caught env r acc:=by
    show(if k=.free then _ else _)=_;rw[if_neg hk]
   rw[q]at e;exact caught_lookup r _ hr ha e
theorem caught_has {env:Env} {x:Str} {c:Addr} (hx:env.cells.lookup x=some c):∀(names:List (Str×NameKind)) (acc:List (Str×Addr)),(acc.lookup x=some c∨(x,NameKind.free)∈names)->(caught env names acc).lookup x=some c
 | [],acc,h=>by
  rcases h with h|h
  ·exact h
  ·cases h
 | (n,k)::r,acc,h=>by
  by_cases hk:k=.free
  ·have q:caught env ((n,k)::r) acc=caught env r ((n,(env.cells.lookup n).getD 0)::acc):=by
    show(if k=.free then _ else _)=_;rw[if_pos hk]
   rw[q];refine caught_has hx r _ ?_;by_cases hxn:(x == n)=true
   ·left;have e:x=n:=by simpa using hxn
    rw[lookup_cons_,if_pos hxn,← e,hx];rfl
   ·rcases h with h|h
    ·left;rw[lookup_cons_,if_neg hxn];exact h
    ·right;rcases List.mem_cons.mp h with h|h
     ·cases h;exact absurd (by simp) hxn
     ·exact h
  ·have q:caught env ((n,k)::r) acc=caught env r acc:=by
    show(if k=.free then _ else _)=_;rw[if_neg hk]
   rw[q];refine caught_has hx r _ ?_;rcases h with h|h
   ·exact .inl h
   ·rcases List.mem_cons.mp h with h|h
    ·cases h;exact absurd rfl hk
    ·exact .inr h
theorem relabel_lookup {env:Env} {x:Str}:∀(names:List (Str×NameKind)),
  ((names.map fun(n,k)=>if (k == NameKind.free&&env.scope.kind == .function&&env.kindOf n == some .cell) then(n,NameKind.cell) else(n,k)).lookup x=none/\names.lookup x=none) ∨
  ∃k k',names.lookup x=some k/\(names.map fun(n,k)=>if (k == NameKind.free&&env.scope.kind == .function&&env.kindOf n == some .cell) then(n,NameKind.cell) else(n,k)).lookup x=some k'/\(k'=k∨(k=.free/\k'=.cell))
 | []=>.inl ⟨rfl,rfl⟩
 | (n,k)::r=>by
  have ih:=@relabel_lookup env x r;show(List.lookup x ((if (k == NameKind.free&&env.scope.kind == .function&&env.kindOf n == some .cell)=true then(n,NameKind.cell) else(n,k))::_)=none/\_)∨∃k' k'',_/\List.lookup x ((if (k == NameKind.free&&env.scope.kind == .function&&env.kindOf n == some .cell)=true then(n,NameKind.cell) else(n,k))::_)=_/\_;by_cases hc:(k == NameKind.free&&env.scope.kind == .function&&env.kindOf n == some .cell)=true
  ·rw[if_pos hc,lookup_cons_,lookup_cons_];have hk:k=.free:=by
    simp only[Bool.and_eq_true]at hc;simpa using hc.1.1
   by_cases hx:(x == n)=true
   ·rw[if_pos hx,if_pos hx];exact .inr ⟨k,.cell,rfl,rfl,.inr ⟨hk,rfl⟩⟩
   ·rw[if_neg hx,if_neg hx];exact ih
  ·rw[if_neg hc,lookup_cons_,lookup_cons_];by_cases hx:(x == n)=true
   ·rw[if_pos hx,if_pos hx];exact .inr ⟨k,k,rfl,rfl,.inl rfl⟩
   ·rw[if_neg hx,if_neg hx];exact ih
noncomputable abbrev cxC (X:Cx) (N:List Str) (scope:Scope) (C:Addr) (s:Shared) (H:Hp) (fp:List Addr):Cx :=
 { X with N:=N,s₀:=s,H₀:=H,env:=compEnvC scope (caught X.env scope.names []) C X.env,outer:=X.stack,stack:=X.stack,ex:=fp,fn:=fun _=>false,pn:=[],xe:=fun _ _=>False }
structure BlkScope (X:Cx) (N:List Str) (k:Nat) (caps:List Nat) (scope:Scope):Prop where
 kind:scope.kind=.function
 nocell:∀y∈scope.names,y.2≠.cell
 loc:∀y∈scope.names,y.2=.local->scope.names.lookup y.1=some .local
 free:∀y∈scope.names,y.2=.free->(X.env.kindOf y.1=some .cell∨X.env.kindOf y.1=some .free)
 len:N.length=k+caps.length
 cap:∀(j i:Nat),caps[j]?=some i->∃x,N[k+j]?=some x/\X.N[i]?=some x/\scope.names.lookup x=some .free
noncomputable def blk (k:Nat) (caps:List Nat) (σ:St):St:=List.replicate k none++caps.map fun i=>(σ[i]?).getD none
section
variable {X:Cx} {N:List Str} {k:Nat} {caps:List Nat} {scope:Scope}
theorem BlkScope.cells (S:BlkScope X N k caps scope) (ok:X.Ok):∀x∈scope.names,x.2=.free->∃c,X.env.cells.lookup x.1=some c:=fun x hx hk=>ok.has x.1 (S.free x hx hk)
theorem BlkScope.sub (S:BlkScope X N k caps scope) (ok:X.Ok) {x:Str} {c:Addr} (e:(caught X.env scope.names []).lookup x=some c):X.env.cells.lookup x=some c :=
 caught_lookup _ _ (S.cells ok) (fun y c h=>by cases h) e
theorem BlkScope.has (S:BlkScope X N k caps scope) (ok:X.Ok) {x:Str} (h:scope.names.lookup x=some .free):∃c,X.env.cells.lookup x=some c/\(caught X.env scope.names []).lookup x=some c:=by
 have hm:=PySem.mem_of_lookup h;obtain⟨c,hc⟩:=S.cells ok _ hm rfl;exact⟨c,hc,caught_has hc _ _ (.inr hm)⟩
theorem blk_len (σ:St):(blk k caps σ).length=k+caps.length:=by unfold blk;simp
theorem blk_get {σ:St} {i:Nat} {v:V} (h:(blk k caps σ)[i]?=some (some v)):∃j i',i=k+j/\caps[j]?=some i'/\σ[i']?=some (some v):=by
 unfold blk at h;by_cases hi:i<k
 ·rw[List.getElem?_append_left (by simpa using hi),List.getElem?_replicate]at h
  split at h<;>cases h
 ·rw[List.getElem?_append_right (by simpa using hi),List.length_replicate,List.getElem?_map]at h
  refine⟨i-k,?_⟩;cases e:caps[i-k]? with
  | none=>rw[e]at h;cases h
  | some i' =>
   rw[e]at h;refine⟨i',by omega,rfl,?_⟩
   have h':(σ[i']?).getD none=some v:=by simpa using h
   cases q:σ[i']? with
   | none=>rw[q]at h';cases h'
   | some o=>rw[q]at h';have h'':o=some v:=h';rw[h'']
theorem blk_ok {pins:List (Addr×Obj)} {σ:St} {H:Hp} {s:Shared} {fp:List Addr} {C:Addr} (S:BlkScope X N k caps scope) (I:Inv X pins σ H s) (hf:∀b∈fp,FpOk X pins H b) (hlt:∀b∈fp,b<s.heap.objs.size) (hC:s.heap.objs.size<=C) :
  (cxC X N scope C s H fp).Ok:=by
 have nfs:∀b∈fp,b∉frs X.stack:=fun b hb z=>by
  rcases List.mem_cons.mp (I.stkSub b z) with e|e
  ·exact(hf b hb).2.1 e
  ·exact(hf b hb).2.2.1 e
 refine⟨I.ok.mod,S.kind,I.ok.glob,I.ok.blt,hC,fun x y c h1 h2=>I.ok.inj x y c (S.sub I.ok h1) (S.sub I.ok h2),fun x hx=>?_,fun x c h=>(by cases h),I.ok.hd,I.ok.frames,.inl rfl,fun b hb=>⟨?_,fun x c e=>?_⟩,I.bs,Nat.le_trans I.ok.bsz I.sz,fun b o e hb=>?_,nfs,I.stack,I.stkFree⟩
 ·have hx':(relabel scope X.env).names.lookup x=some .cell∨(relabel scope X.env).names.lookup x=some .free:=hx;rcases relabel_lookup (env:=X.env) (x:=x) scope.names with⟨e,_⟩|⟨k1,k2,e1,e2,e3⟩
  ·rcases hx' with z|z<;>(have z':=e.symm.trans z;cases z')
  ·have hk2:k2=.cell∨k2=.free:=by
    rcases hx' with z|z
    ·exact .inl (Option.some.inj (e2.symm.trans z))
    ·exact .inr (Option.some.inj (e2.symm.trans z))
   have hfree:k1=.free:=by
    rcases e3 with z|⟨z,_⟩
    ·rcases hk2 with q|q
     ·exact absurd (z.symm.trans q) (S.nocell _ (PySem.mem_of_lookup e1))
     ·exact z.symm.trans q
    ·exact z
   rw[hfree]at e1;obtain⟨c,_,hc⟩:=S.has I.ok e1;exact⟨c,hc⟩
 ·exact Nat.ne_of_lt (Nat.lt_of_lt_of_le (hlt b hb) hC)
 ·exact(hf b hb).2.2.2.2.1 x c (S.sub I.ok e)
 ·rcases(hf b hb).2.2.2.1 with z|z
  ·exact I.ok.noex b o e z
  ·exact absurd (Nat.lt_of_lt_of_le (Heap.lt_size (I.ok.bs b o e).1) z) (Nat.lt_irrefl _)
theorem blk_inv {pins:List (Addr×Obj)} {σ:St} {H:Hp} {s s3:Shared} {fp:List Addr} {C:Addr} {m:Str->Option Value} (S:BlkScope X N k caps scope) (I:Inv X pins σ H s) (hf:∀b∈fp,FpOk X pins H b) (hlt:∀b∈fp,b<s.heap.objs.size)
  (hC:s.heap.objs.size<=C) (hos:s3.os=s.os) (hg:s3.gens=s.gens) (kp:∀b o,s.heap.get? b=some o->s3.heap.get? b=some o) (hn:s3.heap.Ns C m):Inv (cxC X N scope C s H fp) [] (blk k caps σ) H s3:=by
 refine⟨blk_ok S I hf hlt hC,hos,by rw[hg];exact I.bare,Un.kept kp,⟨m,hn,fun i x v e1 e2 e3=>?_⟩,fun x c e=>?_,I.hok.fresh hC,fun x c e=>I.freeC x c (S.sub I.ok e),fun p hp=>absurd hp (by simp),I.hok.kept kp,by rw[blk_len];exact S.len.symm⟩
 ·obtain⟨j,i',rfl,hc,hv⟩:=blk_get e2;obtain⟨y,h1,h2,h3⟩:=S.cap j i' hc;have exy:y=x:=Option.some.inj (h1.symm.trans e1);subst exy;obtain⟨c,hc1,hc2⟩:=S.has I.ok h3;obtain⟨m0,hn0,hl0⟩:=I.loc;have hkind:=S.free _ (PySem.mem_of_lookup h3) rfl;obtain⟨u,ru,lu⟩:=hl0 i' y v h2 hv (hkind.elim (fun z=>.inr (.inl z)) (fun z=>.inr (.inr z)));refine⟨u,ru,.inr ⟨?_,c,hc2,?_⟩⟩
  ·rcases relabel_lookup (env:=X.env) (x:=y) scope.names with⟨_,e⟩|⟨k1,k2,q1,q2,q3⟩
   ·rw[e]at h3;cases h3
   ·have hk1:k1=.free:=Option.some.inj (q1.symm.trans h3);rcases q3 with z|⟨_,z⟩
    ·right;show(relabel scope X.env).names.lookup y=_;exact q2.trans (by rw[z,hk1])
    ·left;show(relabel scope X.env).names.lookup y=_;exact q2.trans (by rw[z])
  ·rcases lu with⟨hk,_⟩|⟨_,c',hc',cell⟩
   ·rcases hkind with z|z<;>(have z':=hk.symm.trans z;cases z')
   ·have:c'=c:=Option.some.inj (hc'.symm.trans hc1);subst this;obtain⟨o,ho,hd⟩:=cell;exact⟨o,kp _ o ho,hd⟩
 ·obtain⟨v,o,ho,hd⟩:=I.cell x c (S.sub I.ok e);exact⟨v,o,kp _ o ho,hd⟩
end
noncomputable def PIf (X:Cx) (ifs:List Expr) (t:TT):Prop :=
 ∀(pins:List (Addr×Obj)) (s:Shared) (σ:St) (H:Hp) (Q:Bool->Hp->Prop),Inv X pins σ H s->t σ H Q ->
  wpAny (model X.prog X.w) X.A (forIn ifs true fun c r=>if r=true then do let ok ← isTrue c X.env (eval c X.env);pure (ForInStep.yield ok) else pure (ForInStep.yield r)) (TP X pins σ Q) X.xe s
noncomputable def tYes:TT:=fun _ H Q=>Q true H
theorem pif_nil {X:Cx}:PIf X [] tYes:=fun _ _ _ H _ I h=>wpAny_tests_nil ⟨H,I,h⟩
theorem pif_one {X:Cx} {c:Expr} {t:TT} (h:PT X c t):PIf X [c] t:=fun pins s σ H Q I hw=>wpAny_tests_one (h pins s σ H Q I hw)
theorem codeAny_compLoop_gen {prog:Program} {w:World} {A:Around} {R:Result->Shared->Prop} {s:Shared} {elt target iter:Expr} {ifs:List Expr} {scope:Scope} {pos:Pos} {it acc:Value} {env:Env} (I:Nat->Shared->Prop)
  (turn:∀n s,I n s->wpAny (model prog w) A (pyNext it) (fun r s₁=>match r with
   | none=>R (.ok .next) s₁
   | some v=>wpAny (model prog w) A (letOwnedTupleGo target it v) (fun _ s₀=>wpAny (model prog w) A (assign target env v) (fun _ s₂ =>
     wpAny (model prog w) A (forIn ifs true fun c r=>if r=true then do let ok ← isTrue c env (eval c env);pure (ForInStep.yield ok) else pure (ForInStep.yield r)) (fun ok s₃ =>
      if ok=true then wpAny (model prog w) A (eval elt env) (fun x s₄ =>
       wpAny (model prog w) A (call (.builtin "list.append") [acc,x]) (fun _ s₅=>∃m,m<n/\I m s₅) (fun _ _=>False) s₄) (fun _ _=>False) s₃
      else ∃m,m<n/\I m s₃) (fun _ _=>False) s₂) (fun _ _=>False) s₀) (fun _ _=>False) s₁) (fun _ _=>False) s)
  (n:Nat) (h:I n s) :
  codeAny (model prog w) A (.compLoop (.ListComp elt [⟨target,iter,ifs,0⟩] scope pos) 0 it acc env) R s:=by
 refine codeAny_loop rfl I (fun n s hI=>?_) n h;show wpAny _ A ((compTurn (.ListComp elt [⟨target,iter,ifs,0⟩] scope pos) 0 it acc env).onRaise (fun x=>do noteFrame x env;theTreesLotGoes x)) _ _ s
 refine wpAny_noted ?_;rw[compTurn_list];refine wpAny_bind (wpAny_standAt (wpAny_bind (wpAny_mono (turn n s hI) (fun r s₁ h₁=>?_) fun _ _ h'=>False.elim h')));cases r with
 | none=>exact wpAny_pure h₁
 | some v =>
  refine wpAny_bind (wpAny_mono h₁ (fun _ s₀ h₀=>?_) fun _ _ h'=>False.elim h');refine wpAny_bind (wpAny_mono h₀ (fun _ s₂ h₂=>wpAny_bind (wpAny_mono h₂ (fun ok s₃ h₃=>?_) fun _ _ h'=>False.elim h')) fun _ _ h'=>False.elim h');cases ok with
  | false=>exact wpAny_pure ⟨rfl,h₃⟩
  | true =>
   exact wpAny_bind (wpAny_bind (wpAny_mono h₃ (fun x s₄ h₄=>wpAny_bind (wpAny_mono h₄ (fun _ s₅ h₅=>wpAny_pure (wpAny_pure ⟨rfl,h₅⟩)) fun _ _ h'=>False.elim h')) fun _ _ h'=>False.elim h'))
noncomputable def tComp (k:Nat) (caps:List Nat) (wi:TI) (g:TG) (tc:TT) (te:TE):TE:=fun σ H Q=>wi σ H fun J H1=>∃(n:Nat) (W:Nat->List V->Hp->Prop),W 0 [] H1 /\
 (∀xs H,W n xs H->J.stop n H/\∀p,H p=none->Q (.ref p) (upd H p (.lst xs))) /\
 ∀i xs H,i<n->W i xs H->J.go i H/\xs.length<sizeLine/\∀x H',J.yld i H x H'->g x (blk k caps σ) H' fun σ2 H2=>tc σ2 H2 fun ok H3 =>
  if ok=true then te σ2 H3 fun y H4=>σ2.drop k=(blk k caps σ).drop k/\W (i+1) (xs++[y]) H4
  else σ2.drop k=(blk k caps σ).drop k/\W (i+1) xs H3
noncomputable abbrev lstObj (its:List Value) (n:Nat):Obj:={ cls:=.type "list",data:=.seq its.toArray n }
noncomputable def Aside (X:Cx) (pins:List (Addr×Obj)) (H:Hp) (C:Addr):Prop :=
 H C=none/\C≠X.env.locals/\(C∈X.ex∨X.s₀.heap.objs.size<=C)/\(∀x c,X.env.cells.lookup x=some c->c≠C)/\∀p∈X.pn++pins,p.1≠C
theorem comp_run {X:Cx} {elt iter tg:Expr} {ifs:List Expr} {scope:Scope} {pos cpos:Pos} {N:List Str} {k:Nat} {caps:List Nat} {wi:TI} {g:TG} {tc:TT} {te:TE} {use:Option (Value->Sem Unit)} {Q':Value->Shared->Prop}
  {pins:List (Addr×Obj)} {s:Shared} {σ:St} {H:Hp} {Q:VK} (S:BlkScope X N k caps scope) (hc:X.calm=true) (hi:PI X tg iter wi)
  (hg:∀C s H fp,PG (cxC X N scope C s H fp) tg g) (ht:∀C s H fp,PIf (cxC X N scope C s H fp) ifs tc) (he:∀C s H fp,PE (cxC X N scope C s H fp) elt te)
  (hs:∀x,foldedSetIterable iter X.env x=pure x) (I:Inv X pins σ H s) (h:tComp k caps wi g tc te σ H Q)
  (fin:∀(D C:Addr) (H4:Hp) (s4:Shared) (m:Str->Option Value),Inv X pins σ H4 s4->s4.heap.Ns C m->Aside X pins H4 C->Q (.ref D) H4->compPost (model X.prog X.w) X.A X.xe use Q' (.ref D) C (.ok .next) s4) :
  wpAny (model X.prog X.w) X.A (comprehension (.ListComp elt [⟨tg,iter,ifs,0⟩] scope pos) scope X.env cpos (newList []) false (eval iter X.env) use) Q' X.xe s:=by
 refine wpAny_comprehension_free rfl hs (closureFor_caught (S.cells I.ok)) S.kind S.loc ?_;refine thn (hi pins s σ H _ I h) fun v s1 h1=>thn h1 fun itv s2 h2=>?_;obtain⟨it,fp,tn,J,H2,e,I2,T,st2,f2,n0,W,w0,wstop,turn⟩:=h2;subst e;refine wpAny_newObj_type (wpAny_newFunctionEnv S.nocell (by intro y hy;simp at hy) (fun h₁ hns₁ hsb₁=>?_) S.kind)
 dsimp only at hns₁ hsb₁ ⊢;generalize hG:s2.heap.push { cls:=.type "list",dict:=none,data:=.seq ([]:List Value).toArray }=G at hns₁ hsb₁ ⊢;have hCG:G.objs.size=s2.heap.objs.size+1:=by rw[← hG,Heap.size_push]
 have hDC:s2.heap.objs.size≠G.objs.size:=by omega
 have below:∀b,b<s2.heap.objs.size->b≠G.objs.size/\b≠s2.heap.objs.size:=fun b hb=>⟨by omega,by omega⟩
 have old:∀b o,s2.heap.get? b=some o->h₁.get? b=some o:=fun b o e=>hsb₁.extBut b o (below b (Heap.lt_size e)).1 (Heap.get?_push_of_some _ (hG ▸ Heap.get?_push_of_some _ e));have hacc:h₁.get? s2.heap.objs.size=some (lstObj [] 0):=hsb₁.extBut _ _ hDC (Heap.get?_push_of_some _ (hG ▸ Heap.get?_push_size _ rfl));have hlt:∀b∈fp,b<s2.heap.objs.size:=fun b hb=>by obtain⟨o,ho,_⟩:=T.obj 0 _ st2 b hb;exact Heap.lt_size ho
 have hDf:s2.heap.objs.size∉fp:=fun z=>Nat.lt_irrefl _ (hlt _ z);have hle:s2.heap.objs.size<=G.objs.size:=by omega
 have hDcell:∀x c,(caught X.env scope.names []).lookup x=some c->c≠s2.heap.objs.size:=fun x c e z=>by
  obtain⟨v,q⟩:=I2.cell x c (S.sub I2.ok e);exact absurd q.lt (by rw[z];exact Nat.lt_irrefl _)
 have hDfs:s2.heap.objs.size∉frs X.stack:=fun z=>by
  obtain⟨_,o,ho,_⟩:=I2.stack.mem z;exact absurd (Heap.lt_size ho) (Nat.lt_irrefl _)
 have nfs:∀b∈fp,b∉frs X.stack:=fun b hb z=>by
  rcases List.mem_cons.mp (I2.stkSub b z) with e|e
  ·exact(f2 b hb).2.1 e
  ·exact(f2 b hb).2.2.1 e
 have fpk:∀{H':Hp} {its:List Value} {n:Nat},(∀b∈fp,H' b=none)->∀b∈fp,FpOk (cxC X N scope G.objs.size s2 H2 fp) [(s2.heap.objs.size,lstObj its n)] H' b:=fun {H' its n} hn b hb =>
  ⟨hn b hb,(below b (hlt b hb)).1,nfs b hb,.inl hb,fun x c e=>(f2 b hb).2.2.2.2.1 x c (S.sub I2.ok e),fun p hp=>by
   have e:p=(s2.heap.objs.size,lstObj its n):=by simpa using hp
   rw[e];exact Ne.symm (below b (hlt b hb)).2⟩
 have pinD:∀{H':Hp} {s':Shared} {σ':St} {its:List Value} {n:Nat},Inv (cxC X N scope G.objs.size s2 H2 fp) [] σ' H' s'->s'.heap.get? s2.heap.objs.size=some (lstObj its n)->H' s2.heap.objs.size=none->Inv (cxC X N scope G.objs.size s2 H2 fp) [(s2.heap.objs.size,lstObj its n)] σ' H' s':=fun {H' s' σ' its n} J e hn =>
  J.pins_of fun p hp=>by
   have q:p=(s2.heap.objs.size,lstObj its n):=by simpa using hp
   rw[q];exact⟨e,hn,hDC,hDfs,fun v z=>by cases z⟩
 have I3:Inv (cxC X N scope G.objs.size s2 H2 fp) [] (blk k caps σ) H2 { s2 with heap:=h₁,toks:=s2.toks+([]:List (Str×Value)).length }:=blk_inv S I2 f2 hlt hle rfl rfl old hns₁;have loop:codeAny (model X.prog X.w) X.A (.compLoop (.ListComp elt [⟨tg,iter,ifs,0⟩] scope pos) 0 (.ref it) (.ref s2.heap.objs.size) (compEnvC scope (caught X.env scope.names []) G.objs.size X.env))
   (compPost (model X.prog X.w) X.A X.xe use Q' (.ref s2.heap.objs.size) G.objs.size) { s2 with heap:=h₁,toks:=s2.toks+([]:List (Str×Value)).length }:=by
  refine codeAny_compLoop_gen (fun n s'=>∃i xs its nn H',Inv (cxC X N scope G.objs.size s2 H2 fp) [(s2.heap.objs.size,lstObj its nn)] (blk k caps σ) H' s'/\tn i s'.heap/\(∀b∈fp,H' b=none)/\Vals xs its/\xs.length<=sizeLine/\n=n0-i/\i<=n0/\W i xs H') ?_ n0
   ⟨0,[],[],0,H2,pinD I3 hacc (I2.hok.fresh (Nat.le_refl _)),T.keep _ _ _ st2 fun b _ o e=>old b o e,fun b hb=>(f2 b hb).1,.nil,Nat.zero_le _,rfl,Nat.zero_le _,w0⟩
  rintro n s3 ⟨i,xs,its,nn,H3,J3,st3,fr3,vs3,hz3,hn3,hi3,w3⟩;by_cases hin:i<n0
  rotate_left
  ·have ein:i=n0:=by omega
   subst ein;obtain⟨stop,qn⟩:=wstop xs H3 w3;refine thn (T.done (cxC X N scope G.objs.size s2 H2 fp) rfl rfl rfl hc i _ s3 _ H3 _ J3 (fpk fr3) st3 stop) fun r s4 ⟨hr,J4⟩=>?_;subst hr;obtain⟨eD,nD,_⟩:=J4.pin (s2.heap.objs.size,lstObj its nn) (by simp)
   have eD:s4.heap.get? s2.heap.objs.size=some (lstObj its nn):=eD;have nD:H3 s2.heap.objs.size=none:=nD;obtain⟨m4,hm4,_⟩:=J4.loc;have U:Un (frs X.stack) fp H2 H3 s2.heap s4.heap:=J4.base;have neC:∀b o,s2.heap.get? b=some o->b≠G.objs.size:=fun b o e=>(below b (Heap.lt_size e)).1;have neD:∀b o,s2.heap.get? b=some o->b≠s2.heap.objs.size:=fun b o e=>(below b (Heap.lt_size e)).2;have H2D:H2 s2.heap.objs.size=none:=I2.hok.fresh (Nat.le_refl _);have HC:H3 G.objs.size=none:=J4.free;refine fin s2.heap.objs.size G.objs.size (upd H3 s2.heap.objs.size (.lst xs)) s4 m4 (I2.call' (s':=s4) (ch:=fp) J4.os ?_ ?_ J4.bare ?_) hm4 ?_ (qn _ nD)
   ·refine⟨fun b o e n hb hx=>U.keep b o e n hb hx,fun b o e n hb hx=>U.slot b o e n hb hx,fun b o e n hx=>?_,fun b o e hx=>U.there b o e hx,fun b ys e=>?_,fun b o u e=>?_,fun b ps e=>?_⟩
    ·rw[upd_ne (neD b o e)];exact U.free b o e n hx
    ·rw[upd_ne (ne_of_none e H2D)];exact U.tups b ys e
    ·rw[upd_ne (ne_of_none e H2D)];exact U.frzs b o u e
    ·obtain⟨more,q⟩:=U.tbls b ps e;exact⟨more,by rw[upd_ne (ne_of_none e H2D)];exact q⟩
   ·intro b u e;by_cases hb:b=s2.heap.objs.size
    ·subst hb;rw[upd_same]at e;cases e;exact⟨hz3,its,nn,vs3,eD⟩
    ·rw[upd_ne hb]at e;exact(J4.hok b u e).stay (fun c v _ q=>q) (fun c q=>by rw[upd_ne (ne_of_none q nD)];exact q) fun c ys q=>by rw[upd_ne (ne_of_none q nD)];exact q
   ·exact fun b hb=>⟨(f2 b hb).2.2.2.1,(f2 b hb).2.1,(f2 b hb).2.2.2.2.1,(f2 b hb).2.2.2.2.2⟩
   ·refine⟨by rw[upd_ne (Ne.symm hDC)];exact HC,Nat.ne_of_gt (Nat.lt_of_lt_of_le I2.lt hle),.inr (Nat.le_trans I2.sz hle),fun x c e z=>?_,fun p hp z=>?_⟩
    ·obtain⟨v,q⟩:=I2.cell x c e;exact absurd (Nat.lt_of_lt_of_le q.lt (by rw[z];exact hle)) (Nat.lt_irrefl _)
    ·exact absurd (Nat.lt_of_lt_of_le (Heap.lt_size (I2.pin p hp).1) (by rw[z];exact hle)) (Nat.lt_irrefl _)
  ·obtain⟨go,hz,step⟩:=turn i xs H3 hin w3;refine thn (T.item (cxC X N scope G.objs.size s2 H2 fp) rfl rfl rfl hc i _ s3 _ H3 _ J3 (fpk fr3) st3 go) fun r s4 ⟨u,hr,h4⟩=>?_;subst hr;refine thn h4 fun _ s5 ⟨x,H5,J5,r5,y5,st5,fr5⟩=>?_;have J5':=J5.pinned (fpk fr5) (T.obj _ _ st5);refine thn (hg _ _ _ _ _ s5 _ H5 x u _ J5' r5 (step x H5 y5)) fun _ s6 ⟨σ6,H6,J6,q6⟩=>?_;refine thn (ht _ _ _ _ _ s6 σ6 H6 _ J6 q6) fun ok s7 ⟨H7,J7,q7⟩=>?_;have wk:∀{σ8:St} {H8:Hp} {s8:Shared} {pl:List (Addr×Obj)},Inv (cxC X N scope G.objs.size s2 H2 fp) pl σ8 H8 s8->σ8.drop k=(blk k caps σ).drop k->Inv (cxC X N scope G.objs.size s2 H2 fp) pl (blk k caps σ) H8 s8:=fun {σ8 H8 s8 pl} J8 hd =>
    J8.weak (by rw[blk_len,J8.len];exact S.len.symm) fun j v e=>by
     obtain⟨j',i',rfl,hc',hv'⟩:=blk_get e;have e1:((blk k caps σ).drop k)[j']?=some (some v):=by rw[List.getElem?_drop];exact e
     rw[← hd,List.getElem?_drop]at e1;exact e1
   have recs:∀{σ8:St} {H8:Hp} {s8:Shared},Inv (cxC X N scope G.objs.size s2 H2 fp) ([(s2.heap.objs.size,lstObj its nn)]++pinsAt fp s5.heap) σ8 H8 s8->(∀b∈fp,∀o,s5.heap.get? b=some o->s8.heap.get? b=some o)/\(∀b∈fp,H8 b=none):=fun {σ8 H8 s8} J8 =>
    ⟨fun b hb o e=>(J8.pin (b,o) (List.mem_append_right _ (List.mem_append_right _ (mem_pinsAt hb e)))).1,fun b hb=>by
     obtain⟨o,e,d⟩:=T.obj _ _ st5 b hb
     exact(J8.pin (b,o) (List.mem_append_right _ (List.mem_append_right _ (mem_pinsAt hb e)))).2.1⟩
   cases ok with
   | false =>
    rw[if_neg (by decide)]at q7 ⊢
    obtain⟨hd,w7⟩:=q7;obtain⟨k1,k2⟩:=recs J7;exact⟨n0-(i+1),by omega,i+1,xs,its,nn,H7,wk J7.unpinned hd,T.keep _ _ _ st5 k1,k2,vs3,hz3,rfl,hin,w7⟩
   | true =>
    rw[if_pos rfl]at q7 ⊢;refine thn (he _ _ _ _ _ s7 σ6 H7 _ J7 q7) fun uy s8 ⟨y,H8,J8,r8,hd,w8⟩=>?_;obtain⟨k1,k2⟩:=recs J8;obtain⟨eD,nD,_⟩:=J8.pin (s2.heap.objs.size,lstObj its nn) (by simp)
    have eD:s8.heap.get? s2.heap.objs.size=some (lstObj its nn):=eD;have nD:H8 s2.heap.objs.size=none:=nD;have hl3:=vs3.length;refine call_meets F.slot_list_append ⟨_,eD,rfl⟩ F.entry_list_append (F.args_list_append_2 _ _) (PySem.list_append s2.heap.objs.size its.toArray nn uy (by rw[List.size_toArray];omega)) ⟨eD,?_⟩
    have q:=PySem.IsL.update eD (fun a:Array Value=>a.push uy);have qe:its.toArray.push uy=(its++[uy]).toArray:=by simp
    rw[qe]at q;have oth:∀b o,b≠s2.heap.objs.size->s8.heap.get? b=some o->(s8.heap.update s2.heap.objs.size (Obj.mapSeq fun a=>a.push uy)).get? b=some o:=fun b o hb e=>(Heap.get?_update_other s8.heap _ (Ne.symm hb)).trans e;have J9:Inv (cxC X N scope G.objs.size s2 H2 fp) [] σ6 H8 { s8 with heap:=s8.heap.update s2.heap.objs.size (Obj.mapSeq fun a=>a.push uy),toks:=s8.toks } :=
     (J8.pins_of (pins':=[]) fun p hp=>absurd hp (by simp)).turned oth nD hDC (.inr (Nat.le_refl _)) hDcell (fun p hp=>absurd hp (by simp))
    refine⟨n0-(i+1),by omega,i+1,xs++[y],its++[uy],_,H8,wk (pinD J9 q nD) hd,T.keep _ _ _ st5 fun b hb o e=>oth b o (fun z=>hDf (z ▸ hb)) (k1 b hb o e),k2,vs3.append (.cons r8 .nil),?_,rfl,hin,w8⟩
    rw[List.length_append,List.length_singleton];omega
 exact codeAny_compStart_list loop (T.self _ 0 _ _ _ (T.keep _ _ _ st2 fun b _ o e=>old b o e) loop)
theorem Inv.aside {X:Cx} {pins:List (Addr×Obj)} {σ:St} {H:Hp} {s:Shared} {C:Addr} {h':Heap} (I:Inv X pins σ H s) (a:Aside X pins H C) (hs:Heap.SameBut C s.heap h'):Inv X pins σ H { s with heap:=h' } :=
 I.turned (t':=s.toks) (fun b o hb e=>hs.extBut b o hb e) a.1 a.2.1 a.2.2.1 a.2.2.2.1 a.2.2.2.2
theorem pe_comp {X:Cx} {elt iter tg:Expr} {ifs:List Expr} {scope:Scope} {pos:Pos} {N:List Str} {k:Nat} {caps:List Nat} {wi:TI} {g:TG} {tc:TT} {te:TE} (S:BlkScope X N k caps scope) (hc:X.calm=true) (hi:PI X tg iter wi)
  (hg:∀C s H fp,PG (cxC X N scope C s H fp) tg g) (ht:∀C s H fp,PIf (cxC X N scope C s H fp) ifs tc) (he:∀C s H fp,PE (cxC X N scope C s H fp) elt te)
  (hs:∀x,foldedSetIterable iter X.env x=pure x:=by intro _;rfl):PE X (.ListComp elt [⟨tg,iter,ifs,0⟩] scope pos) (tComp k caps wi g tc te):=by
 intro pins s σ H Q I h;rw[eval_ListComp];exact comp_run (use:=none) S hc hi hg ht he hs I h fun D C H4 s4 m I4 hm a q=>⟨m,hm,fun h' hs'=>⟨.ref D,H4,I4.aside a hs',rfl,q⟩⟩
theorem ps_comp {X:Cx} {elt iter tg:Expr} {ifs:List Expr} {scope:Scope} {pos py spos:Pos} {N:List Str} {k:Nat} {caps:List Nat} {wi:TI} {g:TG} {tc:TT} {te:TE} {y:Str} {i:Nat} (S:BlkScope X N k caps scope) (hc:X.calm=true) (hN:X.N.Nodup) (hi':X.N[i]?=some y) (hy:Loc X.env.scope y) (hi:PI X tg iter wi)
  (hg:∀C s H fp,PG (cxC X N scope C s H fp) tg g) (ht:∀C s H fp,PIf (cxC X N scope C s H fp) ifs tc) (he:∀C s H fp,PE (cxC X N scope C s H fp) elt te)
  (hs:∀x,foldedSetIterable iter X.env x=pure x:=by intro _;rfl) (hsw:swapsWith (.ListComp elt [⟨tg,iter,ifs,0⟩] scope pos) (some (.Name y py)) spos.line X.env=pure true:=by rfl)
  (hf:X.fn y=true∨X.env.scope.names.lookup y=some .local:=by first|exact .inl rfl|exact .inr rfl|assumption) :
  PS X (.Assign [.Name y py] (.ListComp elt [⟨tg,iter,ifs,0⟩] scope pos) spos) (tAsg (tComp k caps wi g tc te) (gName i)):=by
 intro pins s σ H D I h;rw[exec_Assign_Name_used _ _ _ _ hsw];refine wpAny_bind (wpAny_standAt (wpAny_bind ?_));show wpAny _ X.A (do let _ ← comprehension (.ListComp elt [⟨tg,iter,ifs,0⟩] scope pos) scope X.env _ (newList []) false (eval iter X.env) (some (assign (.Name y py) X.env))) _ _ s
 refine wpAny_bind (wpAny_mono (comp_run (use:=some (assign (.Name y py) X.env)) (Q':=fun _ s'=>SP X pins D .next s') S hc hi hg ht he hs I h ?_) (fun _ s' hq=>wpAny_pure (wpAny_pure hq)) fun _ _ e=>e)
 intro Da C H4 s4 m I4 hm a q;refine wpAny_assign_Name (store_ok2 I4 hN hi' hy (show RelV (.ref Da) (.ref Da) from rfl) (fun s5 I5 ⟨b,sb,hb⟩=>?_) hf);have hbC:C≠b:=by
  rcases hb with z|z
  ·rw[z];exact a.2.1
  ·exact fun e=>a.2.2.2.1 _ _ z e.symm
 exact⟨m,hm.sameBut sb hbC,fun h' hs'=>⟨_,H4,I5.aside a hs',q⟩⟩
end L2
namespace L2
open PySem PySem.Spec PyProof.Rows
noncomputable def Its (x:Str):It:=⟨fun i _=>i<x.cps.size,fun i H v H'=>H'=H/\∃c,x.cps[i]?=some c/\v=.str ⟨#[c]⟩,fun i _=>x.cps.size<=i⟩
theorem turn_strA {P:Program} {w:World} {K:PySem.W.Frag} {tg:Expr} (it:Addr) (x:Str) (t:Tok):Turn P w K tg (Its x) [it] it (fun i h=>h.IsStrIter it "str_ascii_iterator" x t i) where
 mem:=by simp
 obj:=fun i h st b hb=>by
  have e:b=it:=by simpa using hb
  subst e;obtain⟨o,e,c,d⟩:=st;exact⟨o,e,fun v z=>by rw[d]at z;cases z⟩
 keep:=fun i h h' st k=>let ⟨o,ho,r⟩:=st;⟨o,k it (by simp) o ho,r⟩
 item:=by
  intro X hP hw hK hc i pins s σ H E I hf st hg;subst hP hw hK;obtain⟨f0,f1,f2,f3,f4,f5⟩:=hf it (by simp)
  have hg':i<x.cps.size:=hg;refine wpAny_pyNext_ascii_item st (c:=x.cps[i]) (by simp[hg']) fun h' st' sb=>?_
  have I1:Inv X pins σ H { s with heap:=h',toks:=s.toks+1 }:=I.turned (fun b o hb e=>sb.extBut b o hb e) f0 f1 f3 f4 f5;obtain⟨o,e,c,d⟩:=id st';exact⟨_,rfl,go_of (s:={ s with heap:=h',toks:=s.toks+1 }) e c d (by decide) ⟨.str ⟨#[x.cps[i]]⟩,H,I1,⟨_,rfl⟩,⟨rfl,_,by simp[hg'],rfl⟩,st',fun b hb=>(hf b hb).1⟩⟩
 done:=by
  intro X hP hw hK hc i pins s σ H E I hf st hg;subst hP hw hK;obtain⟨f0,f1,f2,f3,f4,f5⟩:=hf it (by simp)
  have hg':x.cps.size<=i:=hg;exact wpAny_pyNext_ascii_end (I.ok.hd hc) st (by simp[hg']) fun h' eb=>⟨rfl,I.turned (t':=s.toks) (fun b o hb e=>eb b o hb e) f0 f1 f3 f4 f5⟩
 self:=fun _ _ _ _ _ st h=>wpAny_pyIter_striter_ascii st h
theorem turn_strW {P:Program} {w:World} {K:PySem.W.Frag} {tg:Expr} (it:Addr) (x:Str) (t:Tok):Turn P w K tg (Its x) [it] it (fun i h=>h.IsStrIter it "str_iterator" x t i) where
 mem:=by simp
 obj:=fun i h st b hb=>by
  have e:b=it:=by simpa using hb
  subst e;obtain⟨o,e,c,d⟩:=st;exact⟨o,e,fun v z=>by rw[d]at z;cases z⟩
 keep:=fun i h h' st k=>let ⟨o,ho,r⟩:=st;⟨o,k it (by simp) o ho,r⟩
 item:=by
  intro X hP hw hK hc i pins s σ H E I hf st hg;subst hP hw hK;obtain⟨f0,f1,f2,f3,f4,f5⟩:=hf it (by simp)
  have hg':i<x.cps.size:=hg;refine wpAny_pyNext_wide_item st (c:=x.cps[i]) (by simp[hg']) fun h' st' sb=>?_
  have I1:Inv X pins σ H { s with heap:=h',toks:=s.toks+1 }:=I.turned (fun b o hb e=>sb.extBut b o hb e) f0 f1 f3 f4 f5;obtain⟨o,e,c,d⟩:=id st';exact⟨_,rfl,go_of (s:={ s with heap:=h',toks:=s.toks+1 }) e c d (by decide) ⟨.str ⟨#[x.cps[i]]⟩,H,I1,⟨_,rfl⟩,⟨rfl,_,by simp[hg'],rfl⟩,st',fun b hb=>(hf b hb).1⟩⟩
 done:=by
  intro X hP hw hK hc i pins s σ H E I hf st hg;subst hP hw hK;obtain⟨f0,f1,f2,f3,f4,f5⟩:=hf it (by simp)
  have hg':x.cps.size<=i:=hg;exact wpAny_pyNext_wide_end (I.ok.hd hc) st (by simp[hg']) fun h' eb=>⟨rfl,I.turned (t':=s.toks) (fun b o hb e=>eb b o hb e) f0 f1 f3 f4 f5⟩
 self:=fun _ _ _ _ _ st h=>wpAny_pyIter_striter_wide st h
section
variable {X:Cx} {tg:Expr}
noncomputable def iStr (tl:TE):TI:=fun σ H R=>tl σ H fun x H1=>∃z,x=.str z/\R (Its z) H1
theorem pi_str {l:Expr} {tl:TE} (hl:PE X l tl):PI X tg l (iStr tl):=by
 intro pins s σ H R I h;refine thn (hl pins s σ H _ I h) fun v s1 ⟨x,H1,I1,r1,q1⟩=>?_;obtain⟨z,e,q⟩:=q1;subst e;obtain⟨t,rfl⟩:=r1;have fpk:∀b∈[s1.heap.objs.size],FpOk X pins H1 b:=fun b hb=>by
  have e:b=s1.heap.objs.size:=by simpa using hb
  subst e;exact I1.fpOk (Nat.le_refl _) (I1.hok.fresh (Nat.le_refl _))
 cases ha:z.cps.all (·<128) with
 | true=>exact wpAny_pyIter_ascii ha ⟨s1.heap.objs.size,[s1.heap.objs.size],_,_,H1,rfl,I1.kept (t':=s1.toks) fun b o e=>Heap.get?_push_of_some _ e,turn_strA _ z t,⟨_,Heap.get?_push_size _ rfl,rfl,rfl⟩,fpk,q⟩
 | false=>exact wpAny_pyIter_wide ha ⟨s1.heap.objs.size,[s1.heap.objs.size],_,_,H1,rfl,I1.kept (t':=s1.toks) fun b o e=>Heap.get?_push_of_some _ e,turn_strW _ z t,⟨_,Heap.get?_push_size _ rfl,rfl,rfl⟩,fpk,q⟩
theorem range_all (bs:List Bool):(List.range bs.length).all (fun i=>bs.getD i true)=bs.all id:=by
 induction bs with
 | nil=>rfl
 | cons b r ih =>
  rw[List.length_cons,List.range_succ_eq_map,List.all_cons,List.all_map,List.all_cons,← ih];rfl
theorem call_all (hc:X.calm=true):CallR X (.builtin "all") (fun xs H Q=>∃(p:Addr) (bs:List Bool),xs=[.ref p]/\SqL X.K H p (bs.map V.bl)/\Q (.bl (bs.all id)) H):=by
 intro pins s σ H xs us Q I rv h;obtain⟨p,bs,rfl,hq,q⟩:=h;obtain⟨u,rfl,ru⟩:=vals1 rv;cases ru;obtain⟨its,r,pl,hz⟩:=I.list hq;have hlen:its.length=bs.length:=by have:=r.length;simpa using this.symm
 obtain⟨op,np,ep,cp,dp,sp⟩:=id pl;have hne:p≠s.heap.objs.size:=Nat.ne_of_lt (Heap.lt_size ep);refine call_all_walk (wpAny_pyIter_list pl.isList ?_);refine⟨s.heap.objs.size,_,_,_,_,_,fun i=>bs.getD i true,rfl,Walks.list (show X.A.in1.handled=none from I.ok.hd hc) s.heap.objs.size p hne its.toArray,⟨⟨_,Heap.get?_push_size _ rfl,rfl,rfl⟩,⟨op,Heap.get?_push_of_some _ ep,cp,np,sp⟩⟩,?_,fun h' tk kp=>?_⟩
 ·intro i v s' Q' E' hv hQ';have hv':its[i]?=some v:=by simpa using hv
  have hi:i<its.length:=(List.getElem?_eq_some_iff.mp hv').1;have hb:(bs.map V.bl)[i]?=some (V.bl (bs[i]'(by omega))):=by
   rw[List.getElem?_map,List.getElem?_eq_getElem (by omega)];rfl
  obtain⟨u',e1,e2⟩:=r.get hb;rw[hv']at e1;cases e1;cases e2;have:bs.getD i true=bs[i]'(by omega):=by rw[List.getD_eq_getElem?_getD,List.getElem?_eq_getElem (by omega)];rfl
  have hQ2:Q' (bs.getD i true) s':=hQ';rw[this]at hQ2;exact wpAny_truthy_bool hQ2
 ·have e:(List.range its.toArray.size).all (fun i=>bs.getD i true)=bs.all id:=by
   rw[List.size_toArray,hlen];exact range_all bs
  rw[e]
  exact⟨.bl (bs.all id),H,I.kept (fun b o e=>kp b o (by
   intro z;have z':b=s.heap.objs.size:=by simpa using z
   exact absurd (Heap.lt_size e) (by rw[z'];exact Nat.lt_irrefl _)) (Heap.get?_push_of_some _ e)),rfl,q⟩
noncomputable def sgn (x:Str):List V:=x.cps.toList.map fun c=>.str ⟨#[c]⟩
theorem sgn_vals {x:Str} {acc:Array Value} (h:ItemsOf (SignAt x) acc x.cps.size):Vals (sgn x) acc.toList:=by
 obtain⟨h1,h2⟩:=h;have gen:∀(cs:List Nat) (us:List Value),us.length=cs.length->(∀(j:Nat) v,us[j]?=some v->∃c u,cs[j]?=some c/\v=Value.str ⟨#[c]⟩ u)->Vals (cs.map fun c=>V.str ⟨#[c]⟩) us:=by
  intro cs;induction cs with
  | nil=>intro us hl _;cases us with
   | nil=>exact .nil
   | cons _ _=>cases hl
  | cons c cs ih =>
   intro us hl hu;cases us with
   | nil=>cases hl
   | cons u us =>
    obtain⟨c',tk,e1,e2⟩:=hu 0 u rfl;have:c=c':=by simpa using e1
    subst this;subst e2;refine .cons ⟨tk,rfl⟩ (ih us (by simpa using hl) fun j v e=>?_)
    have:=hu (j+1) v (by simpa using e)
    simpa using this
 refine gen x.cps.toList acc.toList (by simp[h1]) fun j v e=>?_
 obtain⟨c,u,e1,e2⟩:=h2 j v (by simpa using e)
 exact⟨c,u,by simpa using e1,e2⟩
theorem sgn_len (x:Str):(sgn x).length=x.cps.size:=by simp[sgn]
theorem call_list_text (hc:X.calm=true):CallR X (.type "list") (fun xs H Q=>∃z:Str,xs=[.str z]/\z.cps.size<=sizeLine/\∀l,H l=none->Q (.ref l) (upd H l (.lst (sgn z)))):=by
 intro pins s σ H xs us Q I rv h;obtain⟨z,rfl,hz,q⟩:=h;obtain⟨u,rfl,ru⟩:=vals1 rv;obtain⟨t,rfl⟩:=ru;refine call_list_str (I.ok.hd hc) z t (fun h' tk acc' c' kp hS hi=>?_) hz;refine⟨.ref s.heap.objs.size,upd H s.heap.objs.size (.lst (sgn z)),I.laid kp (Nat.le_refl _) ⟨by rw[sgn_len];exact hz,acc'.toList,c',sgn_vals hi,by simpa using hS⟩,rfl,q _ (I.hok.fresh (Nat.le_refl _))⟩
theorem ObjOk.there {P:Program} {w:World} {H:Hp} {h:Heap} {a:Addr} {o:HO} (x:ObjOk P w H h a o):∃ob,h.get? a=some ob:=by
 cases o with
 | lst xs=>obtain⟨_,_,_,_,e⟩:=x;exact⟨_,e⟩
 | tup xs=>obtain⟨_,_,_,o,e,_⟩:=x;exact⟨_,e⟩
 | dK kvs=>obtain⟨_,_,_,_,o,_,_,e,_⟩:=x;exact⟨_,e⟩
 | dT ep kvs=>obtain⟨_,_,_,_,_,o,_,e,_⟩:=x;exact⟨_,e⟩
 | set S n=>obtain⟨o,_,_,_,e,_⟩:=x;exact⟨_,e⟩
 | ins C dx fs=>obtain⟨_,_,_,e,_⟩:=x;exact⟨_,e⟩
 | own y=>exact x
 | xd fs=>obtain⟨_,⟨_,_,_,e,_⟩,_⟩:=x;exact⟨_,e⟩
 | rng lo hi=>obtain⟨_,_,_,e⟩:=x;exact⟨_,e⟩
 | frz ob u=>obtain⟨e,_⟩:=x;exact⟨_,e⟩
 | tbl ps=>exact⟨_,x⟩
 | met f y=>exact⟨_,x⟩
 | ext φ=>obtain⟨_,e,_⟩:=x;exact e
theorem Inv.laid2 {pins:List (Addr×Obj)} {σ:St} {H:Hp} {s:Shared} {h':Heap} {a:Addr} {o:HO} {t':Nat} (I:Inv X pins σ H s) (k:∀b u,s.heap.get? b=some u->h'.get? b=some u) (hne:∀b u,s.heap.get? b=some u->b≠a) (hn:H a=none) (new:ObjOk X.prog X.w (upd H a o) h' a o) :
  Inv X pins σ (upd H a o) { s with heap:=h',toks:=t' }:=by
 refine I.un ⟨fun b u e _ _ _=>k b u e,fun b u e _ _ _=>⟨u.slots,k b u e⟩,fun b u e n _=>by rw[upd_ne (hne b u e)];exact n,fun b u e _=>⟨u,k b u e⟩,fun b xs e=>by rw[upd_ne (ne_of_none e hn)];exact e,fun b u v e=>by rw[upd_ne (ne_of_none e hn)];exact e,fun b ps e=>⟨#[],by rw[upd_ne (ne_of_none e hn),e];simp⟩⟩ ?_
 intro b u e;by_cases hb:b=a
 ·subst hb;rw[upd_same]at e;cases e;exact new
 ·rw[upd_ne hb]at e;exact(I.hok b u e).stay (fun c v _ q=>k c v q) (fun c q=>by rw[upd_ne (ne_of_none q hn)];exact q) fun c xs q=>by rw[upd_ne (ne_of_none q hn)];exact q
theorem sl_str:SlR X (fun x lo hi H Q=>∃z:Str,x=.str z/\z.length<=sizeLine/\Q (.str (Txt.slice z lo hi)) H):=by
 intro pins s σ H x v vl vu lo hi sl Q I rx hs pl pu h;obtain⟨z,rfl,hz,q⟩:=h;obtain⟨t,rfl⟩:=rx;refine⟨"str",_,F.slot_str_getitem.lookup,typeIs_str _ _ _,?_⟩;have fin:∀(o p:Option Int),lo=o->hi=p->∀t' k,EP X pins σ Q (.str (Txt.slice z o p) t') { s with toks:=k }:=fun o p e1 e2 t' k=>⟨.str _,H,I.tok k,⟨t',rfl⟩,by rw[← e1,← e2];exact q⟩
 cases pl with
 | none =>
  cases pu with
  | none=>exact wpAny_getItem_str_slice (l:=none) (u:=none) (st:=none) hs rfl (post_val_or_str ⟨Nat.le_trans (Txt.slice_le z _ _) hz,fun t' k=>fin _ _ rfl rfl t' k⟩)
  | int j uj=>exact wpAny_getItem_str_slice (l:=none) (u:=some (j,uj)) (st:=none) hs rfl (post_val_or_str ⟨Nat.le_trans (Txt.slice_le z _ _) hz,fun t' k=>fin _ _ rfl rfl t' k⟩)
 | int i ui =>
  cases pu with
  | none=>exact wpAny_getItem_str_slice (l:=some (i,ui)) (u:=none) (st:=none) hs rfl (post_val_or_str ⟨Nat.le_trans (Txt.slice_le z _ _) hz,fun t' k=>fin _ _ rfl rfl t' k⟩)
  | int j uj=>exact wpAny_getItem_str_slice (l:=some (i,ui)) (u:=some (j,uj)) (st:=none) hs rfl (post_val_or_str ⟨Nat.le_trans (Txt.slice_le z _ _) hz,fun t' k=>fin _ _ rfl rfl t' k⟩)
end
end L2
namespace L2
open PySem PySem.Spec PyProof.Rows
structure Cal (P:Program) (w:World) (K:PySem.W.Frag) (mg:Str->Option Value) (base:Heap) (x:Str) (k:Nat) (ps:List Str) (sp:Sp):Prop where
 ex:∃f fd,FnOk P w K mg base CX0 k f fd ps sp/\mg x=some (.ref f)/\PySem.W.keepIn K (.ref f)=true/\Binds K fd ps []
noncomputable def tDef (sp:Sp) (t:TA):TE:=fun σ H Q=>t σ H fun vs H1=>sp vs H1 Q E0
section
variable {X:Cx}
theorem rB {x:Str} {k k':Nat} {ps:List Str} {sp:Sp} {e:Expr} {es:List Expr} {t:TA} {p pos:Pos} (C:Cal X.prog X.w X.K X.mg X.base x k ps sp) (hr:Room k' X.A) (hg:Gl X x) (ha:PA X (e::es) t) (hk:k<=k':=by decide)
  (hdb:(x == ("__debug__":Str))=false:=by decide) (he:starEach (e::es) X.env=(false,eval e X.env)::starEach es X.env:=by rfl) (hpl:(backTo pos (starEach es X.env)).any (·.1)=false:=by rfl) :
  PE X (.Call (.Name x p) (e::es) [] pos) (tDef sp t):=by
 obtain⟨f,fd,F,hm,hkp,hb⟩:=C.ex;intro pins s σ H Q I h;refine pe_call F (hr.mono hk) hg hm hkp hb .nil pass0 ha hdb he hpl pins s σ H Q I ?_;have e0:tDef sp t=tCall sp [] E0 t:=by
  funext σ H Q
  unfold tDef tCall;simp only[List.append_nil]
 rw[e0]at h;exact h
noncomputable def noStar:Expr->Bool
 | .Starred ..=>false
 | _=>true
theorem star_cons {e:Expr} {es:List Expr} {env:Env} (h:noStar e=true):starEach (e::es) env=(false,eval e env)::starEach es env:=by
 cases e<;>first|rfl|cases h
theorem pa_c {e:Expr} {es:List Expr} {te:TE} {t:TA} (ha:PE X e te) (hr:PA X es t) (h:noStar e=true:=by rfl):PA X (e::es) (tCons te t):=pa_cons ha hr (star_cons h)
theorem ps_st (i:Nat) {e:Expr} {te:TE} {x:Str} {pos' pos:Pos} (hN:X.N.Nodup) (he:PE X e te) (hi:X.N[i]?=some x:=by rfl) (hx:Loc X.env.scope x:=by first|exact Or.inl rfl|exact Or.inr rfl) (hf:X.fn x=true∨X.env.scope.names.lookup x=some .local:=by first|exact .inl rfl|exact .inr rfl|assumption)
  (hs:swapsWithSole [.Name x pos'] e pos.line X.env=pure false:=by rfl) (hw:swappedStores [.Name x pos'] e X.env=pure none:=by rfl) (h1:(assignEach [.Name x pos'] X.env).map (·.2)=[assign (.Name x pos') X.env]:=by rfl) :
  PS X (.Assign [.Name x pos'] e pos) (tAsg te (gName i)):=ps_asg he (pg_name hN hi hx hf) hs hw h1
theorem pg_nm (i:Nat) {x:Str} {pos:Pos} (hN:X.N.Nodup) (hi:X.N[i]?=some x:=by rfl) (hx:Loc X.env.scope x:=by first|exact Or.inl rfl|exact Or.inr rfl) (hf:X.fn x=true∨X.env.scope.names.lookup x=some .local:=by first|exact .inl rfl|exact .inr rfl|assumption):PG X (.Name x pos) (gName i):=pg_name hN hi hx hf
theorem ps_cmp (i:Nat) {elt iter tg:Expr} {ifs:List Expr} {scope:Scope} {pos py spos:Pos} {N:List Str} {k:Nat} {caps:List Nat} {wi:TI} {g:TG} {tc:TT} {te:TE} {y:Str} (S:BlkScope X N k caps scope) (hc:X.calm=true) (hN:X.N.Nodup) (hi:PI X tg iter wi)
  (hg:∀C s H fp,PG (cxC X N scope C s H fp) tg g) (ht:∀C s H fp,PIf (cxC X N scope C s H fp) ifs tc) (he:∀C s H fp,PE (cxC X N scope C s H fp) elt te)
  (hi':X.N[i]?=some y:=by rfl) (hy:Loc X.env.scope y:=by first|exact Or.inl rfl|exact Or.inr rfl)
  (hs:∀x,foldedSetIterable iter X.env x=pure x:=by intro _;rfl) (hsw:swapsWith (.ListComp elt [⟨tg,iter,ifs,0⟩] scope pos) (some (.Name y py)) spos.line X.env=pure true:=by rfl)
  (hf:X.fn y=true∨X.env.scope.names.lookup y=some .local:=by first|exact .inl rfl|exact .inr rfl|assumption) :
  PS X (.Assign [.Name y py] (.ListComp elt [⟨tg,iter,ifs,0⟩] scope pos) spos) (tAsg (tComp k caps wi g tc te) (gName i)):=ps_comp S hc hN hi' hy hi hg ht he hs hsw hf
end
theorem boot_list':bootBuiltins "list"=some (.type "list"):=by decide +kernel
theorem boot_tuple':bootBuiltins "tuple"=some (.type "tuple"):=by decide +kernel
theorem boot_int':bootBuiltins "int"=some (.type "int"):=by decide +kernel
theorem kit_ty {K:PySem.W.Frag} {T S:String} {b:Bool} (h:(if (Value.type T == Value.type S)=true then some true else if PySem.W.kitMeta S=true then(fastBuiltinMro T).map (·.contains (Value.type S)) else none)=some b):PySem.W.kitOne K (.type T) (.type S)=some b:=h
theorem boot_isinstance:bootBuiltins "isinstance"=some (.builtin "isinstance"):=by decide +kernel
theorem boot_all:bootBuiltins "all"=some (.builtin "all"):=by decide +kernel
noncomputable def blkOk (osc:Scope) (ON N:List Str) (k:Nat) (caps:List Nat) (scope:Scope):Bool :=
 decide (scope.kind=.function)&&scope.names.all (fun y=>decide (y.2≠.cell))&&scope.names.all (fun y=>decide (y.2=.local->scope.names.lookup y.1=some .local)) &&
 scope.names.all (fun y=>decide (y.2=.free->(osc.names.lookup y.1=some .cell∨osc.names.lookup y.1=some .free)))&&decide (N.length=k+caps.length) &&
 (List.range caps.length).all fun j=>match caps[j]?,N[k+j]? with
  | some i,some x=>decide (ON[i]?=some x)&&decide (scope.names.lookup x=some .free)
  | _,_=>false
theorem blk_mk {X:Cx} {osc:Scope} {ON N:List Str} {k:Nat} {caps:List Nat} {scope:Scope} (h:blkOk osc ON N k caps scope=true) (ho:X.env.scope=osc) (hN:X.N=ON):BlkScope X N k caps scope:=by
 unfold blkOk at h;simp only[Bool.and_eq_true,decide_eq_true_eq,List.all_eq_true]at h;obtain⟨⟨⟨⟨⟨h1,h2⟩,h3⟩,h4⟩,h5⟩,h6⟩:=h;refine⟨h1,h2,h3,fun y hy hf=>?_,h5,fun j i hj=>?_⟩
 ·show X.env.scope.names.lookup y.1=_∨X.env.scope.names.lookup y.1=_;rw[ho];exact h4 y hy hf
 ·have hlt:j<caps.length:=(List.getElem?_eq_some_iff.mp hj).1;have q:=h6 j (List.mem_range.mpr hlt);rw[hj]at q;cases e:N[k+j]? with
  | none=>rw[e]at q;cases q
  | some x =>
   rw[e]at q;have q':(decide (ON[i]?=some x)&&decide (scope.names.lookup x=some .free))=true:=q;simp only[Bool.and_eq_true,decide_eq_true_eq]at q';exact⟨x,rfl,by rw[hN];exact q'.1,q'.2⟩
theorem same_upd {H:Hp} {p:Addr} (h:H p=none) (o:HO):Same H (upd H p o):=fun b u q=>by rw[upd_ne (ne_of_none q h)];exact q
theorem at_mem {α:Type} {xs:List α} {i:Int} (h0:0<=i) (h1:i<xs.length):∃v,atI xs i=some v/\v∈xs/\xs[i.toNat]?=some v:=by
 have hk:i.toNat<xs.length:=by omega
 have ek:i=((i.toNat:Nat):Int):=by omega
 refine⟨xs[i.toNat],?_,List.getElem_mem hk,List.getElem?_eq_getElem hk⟩;have q:atI xs ((i.toNat:Nat):Int)=some xs[i.toNat]:=atI_nat (List.getElem?_eq_getElem hk);rw[← ek]at q;exact q
end L2
namespace L2
open PySem PySem.Spec PyProof.Rows
section
variable {X:Cx}
theorem mulOk_of {x:Str} {n:Int} (h0:0<=n) (hn:n<=1000) (hx:x.length<=1000):MulOk x n:=by
 have hx':(x.length:Int)<=1000:=by omega
 have hm:(x.length:Int)*n<=1000*1000:=Int.mul_le_mul hx' hn h0 (by decide)
 have hm2:x.length*n.toNat<=1000*1000:=Nat.mul_le_mul hx (by omega)
 refine⟨?_,fun h1 _=>?_,fun h1 h2=>?_⟩
 ·rw[decide_eq_false (by omega),decide_eq_false (by omega)];rfl
 ·have:(x.length:Int)<=(2 ^ 63-1) / n:=(Int.le_ediv_iff_mul_le (by omega)).mpr (Int.le_trans hm (by decide))
  omega
 ·unfold Builtin.Str.tooLong;have:=small1000 (Nat.le_refl 1000);exact decide_eq_false (by rw[sizeLine_eq];omega)
theorem op_mul_str:OpR X (binaryOp .Mult) (fun x y H Q=>∃(a:Str) (n:Int),x=.str a/\y=.int n/\MulOk a n/\Q (.str (Txt.mul a n)) H):=by
 intro pins s σ H x y v u Q I rx ry h;obtain⟨a,n,rfl,rfl,hok,q⟩:=h;obtain⟨t,rfl⟩:=rx;obtain⟨t',rfl⟩:=ry;exact SB.mul hok fun t2 k=>⟨.str _,H,I.tok k,⟨t2,rfl⟩,q⟩
theorem op_neE (hu:X.A.units<cLine):OpR X (compareOp .NotEq) (fun x y H Q=>∃(a b:Addr) (xs:List V),x=.ref a/\y=.ref b/\SqL X.K H a xs/\SqL X.K H b []/\Q (.bl (!xs.isEmpty)) H):=by
 intro pins s σ H x y v u Q I rx ry h;obtain⟨a,b,xs,rfl,rfl,ha,hb,q⟩:=h;cases rx;cases ry;obtain⟨its,r,pl,_⟩:=I.list ha;obtain⟨its2,r2,pl2,_⟩:=I.list hb;cases r2;cases xs with
 | nil =>
  cases r;exact SeqAt.RcNeAt.lists (e:=fun _=>true) pl.isList pl2.isList rfl hu (fun j h1 _=>absurd h1 (by simp)) _ _ _ _ ⟨.bl _,H,I,rfl,q⟩
 | cons x1 xr =>
  cases r;exact SeqAt.RcNeAt.lists_lengths pl.isList pl2.isList (by simp) hu _ _ _ _ ⟨.bl _,H,I,rfl,q⟩
end
theorem rA {X:Cx} {K:PySem.W.Frag} (h:X.K=K):IxR X (rIx K):=h ▸ ix_seq
theorem nodup_le {α:Type} [DecidableEq α]:∀(l m:List α),l.Nodup->(∀x∈l,x∈m)->l.length<=m.length
 | [],_,_,_=>Nat.zero_le _
 | a::l,m,h,hs=>by
  have hm:a∈m:=hs a List.mem_cons_self;have h1:=List.nodup_cons.mp h;have ih:=nodup_le l (m.erase a) h1.2 fun x hx=>by
   have hne:x≠a:=fun e=>h1.1 (e ▸ hx);exact(List.mem_erase_of_ne hne).mpr (hs x (List.mem_cons_of_mem _ hx))
  have hl:=List.length_erase_of_mem hm;have hp:0<m.length:=List.length_pos_of_mem hm;rw[List.length_cons];omega
end L2
namespace VF
open PySem L2
noncomputable abbrev AS:=Addr->Prop
noncomputable abbrev U (O Z:AS):AS:=fun p=>O p∨Z p
noncomputable abbrev ins (p:Addr) (O:AS):AS:=fun b=>b=p∨O b
inductive D where
 | non|bl (b:Bool)|int (i:Int)|str (x:Str)|tup (ds:List D)|lst (ds:List D)|fl (ds:List D)|ty (n:String)|dk (kvs:List (Key×D))|dt (kvs:List (List Key×D))
noncomputable def TupA (K:PySem.W.Frag) (Y:AS) (H:Hp) (a:Addr) (vs:List V):Prop:=H a=some (.tup vs)/\¬ Y a
noncomputable def LstA (K:PySem.W.Frag) (Y:AS) (H:Hp) (a:Addr) (vs:List V):Prop:=(Rd H a (.lst vs)/\¬ Y a)∨∀H',SqL K H' a vs
theorem TupA.sq {K:PySem.W.Frag} {Y:AS} {H:Hp} {a:Addr} {vs:List V} (h:TupA K Y H a vs):SqT K H a vs:=.inl (.inl h.1)
theorem LstA.sq {K:PySem.W.Frag} {Y:AS} {H:Hp} {a:Addr} {vs:List V} (h:LstA K Y H a vs):SqL K H a vs:=by
 rcases h with h|h
 ·exact .inl h.1
 ·exact h H
noncomputable def KA (Y:AS) (H:Hp) (as:List Addr):Prop:=∀b∈as,¬ Y b/\H b≠none
theorem KA.go {Y Y':AS} {H H':Hp} {as:List Addr} (h:KA Y H as) (k:∀b o,H b=some o->¬ Y b->H' b=some o) (n:∀b,Y' b->Y b∨H b=none):KA Y' H' as:=fun b hb=>by
 obtain⟨h1,h2⟩:=h b hb;refine⟨fun z=>(n b z).elim h1 h2,?_⟩;cases e:H b with
 | none=>exact absurd e h2
 | some o=>rw[k b o e h1];simp
theorem KA.less {Y Y':AS} {H:Hp} {as:List Addr} (h:KA Y H as) (n:∀b,Y' b->Y b):KA Y' H as:=fun b hb=>⟨fun z=>(h b hb).1 (n b z),(h b hb).2⟩
inductive DA (K:PySem.W.Frag) (Y:AS) (H:Hp):V->D->Prop where
 | non:DA K Y H .non .non
 | bl (b:Bool):DA K Y H (.bl b) (.bl b)
 | int (i:Int):DA K Y H (.int i) (.int i)
 | str (x:Str):DA K Y H (.str x) (.str x)
 | tup {a:Addr} {vs:List V} {ds:List D}:TupA K Y H a vs->vs.length=ds.length->(∀(i:Nat) v d,vs[i]?=some v->ds[i]?=some d->DA K Y H v d)->DA K Y H (.ref a) (.tup ds)
 | ty (n:String):DA K Y H (.ty n) (.ty n)
 | lst {a:Addr} {vs:List V} {ds:List D}:¬ Y a->H a=some (.lst vs)->vs.length=ds.length->(∀(i:Nat) v d,vs[i]?=some v->ds[i]?=some d->DA K Y H v d)->DA K Y H (.ref a) (.lst ds)
 | fl {a:Addr} {vs:List V} {ds:List D}:LstA K Y H a vs->vs.length=ds.length->(∀(i:Nat) v d,vs[i]?=some v->ds[i]?=some d->DA K Y H v d)->DA K Y H (.ref a) (.fl ds)
 | dk {a:Addr} {kvs:List (Key×V)} {ds:List (Key×D)}:¬ Y a->H a=some (.dK kvs)->kvs.map (·.1)=ds.map (·.1)->(∀(i:Nat) v d,kvs[i]?=some v->ds[i]?=some d->DA K Y H v.2 d.2)->DA K Y H (.ref a) (.dk ds)
 | dt {a:Addr} {ep:Nat×List Addr} {kvs:List (List Key×V)} {ds:List (List Key×D)}:¬ Y a->KA Y H ep.2->H a=some (.dT ep kvs)->kvs.map (·.1)=ds.map (·.1)->(∀(i:Nat) v d,kvs[i]?=some v->ds[i]?=some d->DA K Y H v.2 d.2)->DA K Y H (.ref a) (.dt ds)
noncomputable def El (K:PySem.W.Frag) (Y:AS) (H:Hp) (vs:List V) (ds:List D):Prop:=vs.length=ds.length/\∀(i:Nat) v d,vs[i]?=some v->ds[i]?=some d->DA K Y H v d
noncomputable def Lv (H:Hp) (p:Addr):Prop:=H p≠none/\∀vs,H p≠some (.tup vs)
theorem Lv.same {H H':Hp} {p:Addr} (h:Lv H p) (s:∀o,H p=some o->H' p=some o):Lv H' p:=by
 cases e:H p with
 | none=>exact absurd e h.1
 | some o =>
  refine⟨by rw[s o e];simp,fun vs z=>h.2 vs ?_⟩
  rw[s o e]at z;rw[e];exact z
structure Ext (O:AS) (H:Hp) (O':AS) (H':Hp):Prop where
 kp:∀b o,H b=some o->¬ O b->H' b=some o
 nw:∀b,O' b->O b∨H b=none
 al:∀b,H b≠none->H' b≠none
 lv:∀b,Lv H b->Lv H' b
section
variable {K:PySem.W.Frag} {Y Y' O O' O1 O2 Z:AS} {H H' H1 H2:Hp} {v:V} {d:D} {vs:List V} {ds:List D} {a p:Addr}
theorem Ext.refl (O:AS) (H:Hp):Ext O H O H:=⟨fun _ _ h _=>h,fun _ h=>.inl h,fun _ h=>h,fun _ h=>h⟩
theorem Ext.trans (a:Ext O H O1 H1) (b:Ext O1 H1 O2 H2):Ext O H O2 H2:=by
 refine⟨fun c o h n=>b.kp c o (a.kp c o h n) fun z=>?_,fun c h=>?_,fun c h=>b.al c (a.al c h),fun c h=>b.lv c (a.lv c h)⟩
 ·rcases a.nw c z with q|q
  ·exact n q
  ·rw[h]at q;cases q
 ·rcases b.nw c h with q|q
  ·exact a.nw c q
  ·right;cases e:H c with
   | none=>rfl
   | some o=>exact absurd q (a.al c (by rw[e];simp))
theorem Same.ext (h:Same H H'):Ext O H O H':=⟨fun b o e _=>h b o e,fun _ z=>.inl z,fun b z=>by
 cases e:H b with
 | none=>exact absurd e z
 | some o=>rw[h b o e];simp,fun b z=>z.same fun o e=>h b o e⟩
theorem Rd.keep {u:HO} (r:Rd H a u) (k:∀o,H a=some o->H' a=some o):Rd H' a u:=by
 rcases r with r|⟨o,r⟩
 ·exact .inl (k _ r)
 ·exact .inr ⟨o,k _ r⟩
theorem Rd.live {u:HO} (r:Rd H a u):H a≠none:=by
 rcases r with r|⟨o,r⟩<;>(rw[r];simp)
theorem TupA.go (h:TupA K Y H a vs) (k:∀b o,H b=some o->¬ Y b->H' b=some o) (n:∀b,Y' b->Y b∨H b=none):TupA K Y' H' a vs:=by
 obtain⟨h1,h2⟩:=h;refine⟨k a _ h1 h2,fun z=>?_⟩;rcases n a z with q|q
 ·exact h2 q
 ·rw[h1]at q;cases q
theorem LstA.go (h:LstA K Y H a vs) (k:∀b o,H b=some o->¬ Y b->H' b=some o) (n:∀b,Y' b->Y b∨H b=none):LstA K Y' H' a vs:=by
 rcases h with⟨h1,h2⟩|h
 ·refine .inl ⟨Rd.keep h1 fun o e=>k a o e h2,fun z=>?_⟩;rcases n a z with q|q
  ·exact h2 q
  ·exact Rd.live h1 q
 ·exact .inr h
theorem DA.go (h:DA K Y H v d) (k:∀b o,H b=some o->¬ Y b->H' b=some o) (n:∀b,Y' b->Y b∨H b=none):DA K Y' H' v d:=by
 have no:∀a u,H a=some u->¬ Y a->¬ Y' a:=fun a u e ny z=>by
  rcases n a z with q|q
  ·exact ny q
  ·rw[e]at q;cases q
 induction h with
 | non=>exact .non
 | bl b=>exact .bl b
 | int i=>exact .int i
 | str x=>exact .str x
 | tup h1 h2 _ ih=>exact .tup (h1.go k n) h2 ih
 | ty n=>exact .ty n
 | lst h0 h1 h2 _ ih=>exact .lst (no _ _ h1 h0) (k _ _ h1 h0) h2 ih
 | fl h1 h2 _ ih=>exact .fl (h1.go k n) h2 ih
 | dk h0 h1 h2 _ ih=>exact .dk (no _ _ h1 h0) (k _ _ h1 h0) h2 ih
 | dt h0 ka h1 h2 _ ih=>exact .dt (no _ _ h1 h0) (ka.go k n) (k _ _ h1 h0) h2 ih
theorem DA.ext (h:DA K (U O Z) H v d) (e:Ext O H O' H'):DA K (U O' Z) H' v d :=
 h.go (fun b o q n=>e.kp b o q fun z=>n (.inl z)) fun b z=>z.elim (fun q=>(e.nw b q).elim (fun x=>.inl (.inl x)) .inr) fun q=>.inl (.inr q)
theorem DA.less (h:DA K Y H v d) (n:∀b,Y' b->Y b):DA K Y' H v d:=h.go (fun _ _ e _=>e) fun b z=>.inl (n b z)
theorem DA.same (h:DA K Y H v d) (s:Same H H'):DA K Y H' v d:=h.go (fun b o e _=>s b o e) fun _ z=>.inl z
theorem DA.away (h:DA K Y H v d) (s:Same H H') (hp:H p=none):DA K (ins p Y) H' v d:=h.go (fun b o e _=>s b o e) fun b z=>z.elim (fun q=>.inr (q ▸ hp)) .inl
theorem El.go (h:El K Y H vs ds) (k:∀b o,H b=some o->¬ Y b->H' b=some o) (n:∀b,Y' b->Y b∨H b=none):El K Y' H' vs ds:=⟨h.1,fun i v d a b=>(h.2 i v d a b).go k n⟩
theorem El.ext (h:El K (U O Z) H vs ds) (e:Ext O H O' H'):El K (U O' Z) H' vs ds:=⟨h.1,fun i v d a b=>(h.2 i v d a b).ext e⟩
theorem El.less (h:El K Y H vs ds) (n:∀b,Y' b->Y b):El K Y' H vs ds:=⟨h.1,fun i v d a b=>(h.2 i v d a b).less n⟩
theorem El.same (h:El K Y H vs ds) (s:Same H H'):El K Y H' vs ds:=⟨h.1,fun i v d a b=>(h.2 i v d a b).same s⟩
theorem El.away (h:El K Y H vs ds) (s:Same H H') (hp:H p=none):El K (ins p Y) H' vs ds:=⟨h.1,fun i v d a b=>(h.2 i v d a b).away s hp⟩
theorem El.nil:El K Y H [] []:=⟨rfl,fun i v d h=>by simp at h⟩
theorem El.cons (h:DA K Y H v d) (r:El K Y H vs ds):El K Y H (v::vs) (d::ds):=by
 refine⟨by simp[r.1],fun i v' d' h1 h2=>?_⟩
 cases i with
 | zero =>
  have e1:v=v':=by simpa using h1
  have e2:d=d':=by simpa using h2
  subst e1 e2;exact h
 | succ i=>exact r.2 i v' d' (by simpa using h1) (by simpa using h2)
theorem El.uncons {vs:List V} {d:D} {ds:List D} (h:El K Y H vs (d::ds)):∃v r,vs=v::r/\DA K Y H v d/\El K Y H r ds:=by
 cases vs with
 | nil=>have:=h.1;simp at this
 | cons v r =>
  refine⟨v,r,rfl,h.2 0 v d rfl rfl,?_,fun i v' d' h1 h2=>h.2 (i+1) v' d' (by simpa using h1) (by simpa using h2)⟩
  have:=h.1;simpa using this
theorem El.unnil {vs:List V} (h:El K Y H vs []):vs=[]:=by
 have:=h.1;simpa using this
theorem El.app {vs ws:List V} {ds es:List D} (h:El K Y H vs ds) (r:El K Y H ws es):El K Y H (vs++ws) (ds++es):=by
 refine⟨by simp[h.1,r.1],fun i v d h1 h2=>?_⟩
 by_cases hi:i<vs.length
 ·rw[List.getElem?_append_left hi]at h1;rw[List.getElem?_append_left (by rw[← h.1];exact hi)]at h2
  exact h.2 i v d h1 h2
 ·rw[List.getElem?_append_right (by omega)]at h1
  rw[List.getElem?_append_right (by rw[← h.1];omega),← h.1]at h2
  exact r.2 _ v d h1 h2
theorem El.at (h:El K Y H vs ds) {i:Nat} {d:D} (e:ds[i]?=some d):∃v,vs[i]?=some v/\DA K Y H v d:=by
 have hi:i<ds.length:=(List.getElem?_eq_some_iff.mp e).1;have hv:i<vs.length:=by rw[h.1];exact hi
 exact⟨vs[i],List.getElem?_eq_getElem hv,h.2 i _ d (List.getElem?_eq_getElem hv) e⟩
theorem El.one (h:DA K Y H v d):El K Y H [v] [d]:=El.cons h El.nil
theorem El.rev (h:El K Y H vs ds):El K Y H vs.reverse ds.reverse:=by
 refine⟨by simp[h.1],fun i v d h1 h2=>?_⟩
 have hi:i<vs.length:=by
  have:=(List.getElem?_eq_some_iff.mp h1).1;simpa using this
 rw[List.getElem?_reverse hi]at h1;rw[List.getElem?_reverse (by rw[← h.1];exact hi),← h.1]at h2
 exact h.2 _ v d h1 h2
theorem El.take (h:El K Y H vs ds) (n:Nat):El K Y H (vs.take n) (ds.take n):=by
 refine⟨by simp[h.1],fun i v d h1 h2=>?_⟩
 rw[List.getElem?_take]at h1 h2;split at h1
 ·rename_i q;rw[if_pos q]at h2;exact h.2 i v d h1 h2
 ·cases h1
theorem El.drop (h:El K Y H vs ds) (n:Nat):El K Y H (vs.drop n) (ds.drop n):=by
 refine⟨by simp[h.1],fun i v d h1 h2=>?_⟩
 rw[List.getElem?_drop]at h1 h2;exact h.2 _ v d h1 h2
theorem El.set (h:El K Y H vs ds) (hv:DA K Y H v d) (j:Nat):El K Y H (vs.set j v) (ds.set j d):=by
 refine⟨by simp[h.1],fun i v' d' h1 h2=>?_⟩
 rw[List.getElem?_set]at h1 h2;by_cases e:j=i
 ·rw[if_pos e]at h1 h2;by_cases hl:j<vs.length
  ·rw[if_pos hl]at h1;rw[if_pos (by rw[← h.1];exact hl)]at h2
   have e1:v=v':=by simpa using h1
   have e2:d=d':=by simpa using h2
   subst e1 e2;exact hv
  ·rw[if_neg hl]at h1;cases h1
 ·rw[if_neg e]at h1 h2;exact h.2 i v' d' h1 h2
theorem El.erase (h:El K Y H vs ds) (j:Nat):El K Y H (vs.eraseIdx j) (ds.eraseIdx j):=by
 refine⟨by simp[List.length_eraseIdx,h.1],fun i v d h1 h2=>?_⟩
 rw[List.getElem?_eraseIdx]at h1 h2;split at h1
 ·rename_i q;rw[if_pos q]at h2;exact h.2 _ v d h1 h2
 ·rename_i q;rw[if_neg q]at h2;exact h.2 _ v d h1 h2
noncomputable def OA (K:PySem.W.Frag) (Y:AS) (H:Hp) (p:Addr):D->Prop
 | .lst ds=>∃vs,H p=some (.lst vs)/\El K Y H vs ds
 | .dk ds=>∃kvs,H p=some (.dK kvs)/\kvs.map (·.1)=ds.map (·.1)/\∀(i:Nat) v d,kvs[i]?=some v->ds[i]?=some d->DA K Y H v.2 d.2
 | .dt ds=>∃ep kvs,KA Y H ep.2/\H p=some (.dT ep kvs)/\kvs.map (·.1)=ds.map (·.1)/\∀(i:Nat) v d,kvs[i]?=some v->ds[i]?=some d->DA K Y H v.2 d.2
 | _=>False
theorem OA.live (h:OA K Y H p d):H p≠none:=by
 cases d with
 | lst ds=>obtain⟨vs,e,_⟩:=h;rw[e];simp
 | dk ds=>obtain⟨vs,e,_⟩:=h;rw[e];simp
 | dt ds=>obtain⟨_,vs,_,e,_⟩:=h;rw[e];simp
 | _=>exact h.elim
theorem OA.lv (h:OA K Y H p d):Lv H p:=by
 cases d with
 | lst ds=>obtain⟨vs,e,_⟩:=h;exact⟨by rw[e];simp,fun _ z=>by rw[e]at z;cases z⟩
 | dk ds=>obtain⟨vs,e,_⟩:=h;exact⟨by rw[e];simp,fun _ z=>by rw[e]at z;cases z⟩
 | dt ds=>obtain⟨_,vs,_,e,_⟩:=h;exact⟨by rw[e];simp,fun _ z=>by rw[e]at z;cases z⟩
 | _=>exact h.elim
theorem OA.go (h:OA K Y H p d) (hp:H' p=H p) (k:∀b o,H b=some o->¬ Y b->H' b=some o) (n:∀b,Y' b->Y b∨H b=none):OA K Y' H' p d:=by
 cases d with
 | lst ds=>obtain⟨vs,e,q⟩:=h;exact⟨vs,hp.trans e,q.go k n⟩
 | dk ds=>obtain⟨vs,e,q1,q2⟩:=h;exact⟨vs,hp.trans e,q1,fun i v d a b=>(q2 i v d a b).go k n⟩
 | dt ds=>obtain⟨ep,vs,ka,e,q1,q2⟩:=h;exact⟨ep,vs,ka.go k n,hp.trans e,q1,fun i v d a b=>(q2 i v d a b).go k n⟩
 | _=>exact h.elim
theorem OA.da (h:OA K Y H p d) (hp:¬ Y' p) (n:∀b,Y' b->Y b):DA K Y' H (.ref p) d:=by
 cases d with
 | lst ds=>obtain⟨vs,e,q⟩:=h;exact .lst hp e q.1 (q.less n).2
 | dk ds=>obtain⟨vs,e,q1,q2⟩:=h;exact .dk hp e q1 fun i v d a b=>(q2 i v d a b).less n
 | dt ds=>obtain⟨ep,vs,ka,e,q1,q2⟩:=h;exact .dt hp (ka.less n) e q1 fun i v d a b=>(q2 i v d a b).less n
 | _=>exact h.elim
noncomputable def BA (K:PySem.W.Frag) (Y:AS) (H:Hp) (v:V):D->Prop
 | .non=>v=.non
 | .bl b=>v=.bl b
 | .int i=>v=.int i
 | .str x=>v=.str x
 | .tup ds=>∃a vs,v=.ref a/\TupA K Y H a vs/\El K Y H vs ds
 | .ty n=>v=.ty n
 | .lst ds=>∃a vs,v=.ref a/\H a=some (.lst vs)/\El K Y H vs ds
 | .fl ds=>∃a vs,v=.ref a/\LstA K Y H a vs/\El K Y H vs ds
 | .dk ds=>∃a kvs,v=.ref a/\H a=some (.dK kvs)/\kvs.map (·.1)=ds.map (·.1)/\∀(i:Nat) v d,kvs[i]?=some v->ds[i]?=some d->DA K Y H v.2 d.2
 | .dt ds=>∃a ep kvs,v=.ref a/\KA Y H ep.2/\H a=some (.dT ep kvs)/\kvs.map (·.1)=ds.map (·.1)/\∀(i:Nat) v d,kvs[i]?=some v->ds[i]?=some d->DA K Y H v.2 d.2
theorem DA.ba (h:DA K Y H v d):BA K Y H v d:=by
 cases h with
 | non=>rfl
 | bl b=>rfl
 | int i=>rfl
 | str x=>rfl
 | tup h1 h2 h3=>exact⟨_,_,rfl,h1,h2,h3⟩
 | ty n=>rfl
 | lst h0 h1 h2 h3=>exact⟨_,_,rfl,h1,h2,h3⟩
 | fl h1 h2 h3=>exact⟨_,_,rfl,h1,h2,h3⟩
 | dk h0 h1 h2 h3=>exact⟨_,_,rfl,h1,h2,h3⟩
 | dt h0 ka h1 h2 h3=>exact⟨_,_,_,rfl,ka,h1,h2,h3⟩
theorem OA.ba (h:OA K Y H p d):BA K Y H (.ref p) d:=by
 cases d with
 | lst ds=>obtain⟨vs,e,q⟩:=h;exact⟨p,vs,rfl,e,q⟩
 | dk ds=>obtain⟨vs,e,q1,q2⟩:=h;exact⟨p,vs,rfl,e,q1,q2⟩
 | dt ds=>obtain⟨ep,vs,ka,e,q1,q2⟩:=h;exact⟨p,ep,vs,rfl,ka,e,q1,q2⟩
 | _=>exact h.elim
end
end VF
namespace VF
open PySem L2
inductive Sl where
 | e|v (d:D)|o (d:D)|io (d:D)
noncomputable abbrev En:=List Sl
noncomputable def Sl.get:Sl->Option D
 | .e=>none
 | .v d=>some d
 | .o d=>some d
 | .io d=>some d
noncomputable def Sl.ow:Sl->Option D
 | .o d=>some d
 | .io d=>some d
 | _=>none
noncomputable def Sl.put (y:D):Sl->Sl
 | .io _=>.io y
 | _=>.o y
theorem Sl.put_ow (y:D) (s:Sl):(s.put y).ow=some y:=by cases s<;>rfl
theorem Sl.put_v (y z:D) (s:Sl):s.put y≠.v z:=by cases s<;>(intro e;cases e)
inductive Rs where
 | d (x:D)|f (x:D)|s (i:Nat)
structure ER (K:PySem.W.Frag) (st:En) (σ:St) (H:Hp) (O Z:AS):Prop where
 len:st.length=σ.length
 val:∀(i:Nat) d,st[i]?=some (.v d)->∃v,σ[i]?=some (some v)/\DA K (U O Z) H v d
 own:∀(i:Nat) s d,st[i]?=some s->s.ow=some d->∃p,σ[i]?=some (some (.ref p))/\O p/\OA K (U O Z) H p d
 uni:∀(i j:Nat) s t d d' p,st[i]?=some s->s.ow=some d->st[j]?=some t->t.ow=some d'->σ[i]?=some (some (.ref p))->σ[j]?=some (some (.ref p))->i=j
 dis:∀p,O p->¬ Z p
 liv:∀p,U O Z p->Lv H p
structure Kp (st st':En):Prop where
 len:st'.length=st.length
 has:∀(i:Nat) s,st[i]?=some s->s.get≠none->∃s',st'[i]?=some s'/\s'.get≠none
 io:∀(i:Nat) d,st[i]?=some (.io d)->∃d',st'[i]?=some (.io d')
theorem Kp.refl (st:En):Kp st st:=⟨rfl,fun i s h g=>⟨s,h,g⟩,fun i d h=>⟨d,h⟩⟩
theorem Kp.trans {a b c:En} (x:Kp a b) (y:Kp b c):Kp a c:=by
 refine⟨y.len.trans x.len,fun i s h g=>?_,fun i d h=>?_⟩
 ·obtain⟨s',h',g'⟩:=x.has i s h g;exact y.has i s' h' g'
 ·obtain⟨d',h'⟩:=x.io i d h;exact y.io i d' h'
noncomputable def RVal (K:PySem.W.Frag) (Z:AS) (st:En) (σ:St) (H:Hp) (O:AS) (v:V):Rs->Prop
 | .d x=>DA K (U O Z) H v x
 | .f x=>∃p,v=.ref p/\¬ O p/\¬ Z p/\OA K (ins p (U O Z)) H p x/\ER K st σ H (ins p O) Z
 | .s i=>σ[i]?=some (some v)/\∃s,st[i]?=some s/\s.get≠none
noncomputable def cont (st:En):Rs->Option D
 | .d x=>some x
 | .f x=>some x
 | .s i=>(st[i]?).bind Sl.get
noncomputable def Rs.nf:Rs->Rs
 | .f x=>.d x
 | r=>r
section
variable {K:PySem.W.Frag} {Y Y' O O' O1 O2 Z:AS} {H H' H1 H2:Hp} {v:V} {d:D} {vs:List V} {ds:List D} {a p:Addr} {st st' st1 st2:En} {σ σ':St}
theorem cont_nf (st:En) (r:Rs):cont st r.nf=cont st r:=by cases r<;>rfl
theorem RVal.nf {r:Rs} (h:RVal K Z st σ H O v r):RVal K Z st σ H O v r.nf:=by
 cases r with
 | d x=>exact h
 | s i=>exact h
 | f x =>
  obtain⟨p,rfl,h1,h2,h3,_⟩:=h;exact h3.da (fun z=>z.elim h1 h2) fun b z=>.inr z
theorem RVal.ba {r:Rs} (h:RVal K Z st σ H O v r) (E:ER K st σ H O Z) (c:cont st r=some d):BA K (U O Z) H v d:=by
 cases r with
 | d x=>cases c;exact DA.ba h
 | f x =>
  cases c;have:=RVal.nf h;exact DA.ba (show DA K (U O Z) H v _ from this)
 | s i =>
  obtain⟨h1,s,h2,h3⟩:=h;have c':(st[i]?).bind Sl.get=some d:=c;rw[h2]at c';cases s with
  | e=>cases c'
  | v x =>
   cases c';obtain⟨u,g1,g2⟩:=E.val i _ h2;rw[h1]at g1;cases g1;exact g2.ba
  | o x =>
   cases c';obtain⟨p,g1,g2,g3⟩:=E.own i _ _ h2 rfl;rw[h1]at g1;cases g1;exact g3.ba
  | io x =>
   cases c';obtain⟨p,g1,g2,g3⟩:=E.own i _ _ h2 rfl;rw[h1]at g1;cases g1;exact g3.ba
theorem RVal.ext {r:Rs} (h:RVal K Z st σ H O v r.nf) (e:Ext O H O' H') (k:Kp st st'):RVal K Z st' σ H' O' v r.nf:=by
 cases r with
 | d x=>exact DA.ext (show DA K (U O Z) H v x from h) e
 | f x=>exact DA.ext (show DA K (U O Z) H v x from h) e
 | s i =>
  obtain⟨h1,s,h2,h3⟩:=h;exact⟨h1,k.has i s h2 h3⟩
theorem ER.same (E:ER K st σ H O Z) (s:Same H H'):ER K st σ H' O Z:=by
 refine⟨E.len,fun i d h=>?_,fun i s' d h1 h2=>?_,E.uni,E.dis,fun p hp=>?_⟩
 ·obtain⟨v,h1,h2⟩:=E.val i d h;exact⟨v,h1,h2.same s⟩
 ·obtain⟨p,g1,g2,g3⟩:=E.own i s' d h1 h2;refine⟨p,g1,g2,g3.go ?_ (fun b o e _=>s b o e) fun b z=>.inl z⟩;cases e:H p with
  | none=>exact absurd e g3.live
  | some o=>exact s p o e
 ·exact(E.liv p hp).same fun o e=>s p o e
theorem ER.away (E:ER K st σ H O Z) (s:Same H H') (hp:H p=none) (hp':Lv H' p):ER K st σ H' (ins p O) Z:=by
 have sub:∀b,U (ins p O) Z b->ins p (U O Z) b:=fun b z=>by
  rcases z with(z|z)|z
  ·exact .inl z
  ·exact .inr (.inl z)
  ·exact .inr (.inr z)
 refine⟨E.len,fun i d h=>?_,fun i s' d h1 h2=>?_,E.uni,fun q hq=>?_,fun q hq=>?_⟩
 ·obtain⟨v,h1,h2⟩:=E.val i d h;exact⟨v,h1,(h2.away s hp).less sub⟩
 ·obtain⟨q,g1,g2,g3⟩:=E.own i s' d h1 h2;refine⟨q,g1,.inr g2,g3.go ?_ (fun b o e _=>s b o e) fun b z=>?_⟩
  ·cases e:H q with
   | none=>exact absurd e g3.live
   | some o=>exact s q o e
  ·rcases sub b z with z|z
   ·exact .inr (z ▸ hp)
   ·exact .inl z
 ·rcases hq with rfl|hq
  ·exact fun z=>(E.liv _ (.inr z)).1 hp
  ·exact E.dis q hq
 ·rcases hq with(rfl|hq)|hq
  ·exact hp'
  ·exact(E.same s).liv q (.inl hq)
  ·exact(E.same s).liv q (.inr hq)
theorem ER.free (E:ER K st σ H O Z) (hp:H p=none):¬ O p/\¬ Z p:=⟨fun z=>(E.liv p (.inl z)).1 hp,fun z=>(E.liv p (.inr z)).1 hp⟩
theorem ER.new (E:ER K st σ H O Z) (hp:H p=none) (el:El K (U O Z) H vs ds):ER K st σ (upd H p (.lst vs)) O Z/\RVal K Z st σ (upd H p (.lst vs)) O (.ref p) (.f (.lst ds)):=by
 have s:=same_upd hp (.lst vs);have hf:=E.free hp;refine⟨E.same s,p,rfl,hf.1,hf.2,⟨vs,upd_same,el.away s hp⟩,E.away s hp ⟨by rw[upd_same];simp,fun _ z=>by rw[upd_same]at z;cases z⟩⟩
theorem ER.newT (E:ER K st σ H O Z) (hp:H p=none) (el:El K (U O Z) H vs ds):ER K st σ (upd H p (.tup vs)) O Z/\RVal K Z st σ (upd H p (.tup vs)) O (.ref p) (.d (.tup ds)):=by
 have s:=same_upd hp (.tup vs);have hf:=E.free hp;exact⟨E.same s,.tup ⟨upd_same,fun z=>z.elim hf.1 hf.2⟩ el.1 (el.same s).2⟩
noncomputable def frz1 (st:En) (i:Nat):Option En:=match st[i]? with
 | some (.v _)=>some st
 | some (.o d)=>some (st.set i (.v d))
 | _=>none
noncomputable def frzR (st:En):Rs->Option En
 | .s i=>frz1 st i
 | _=>some st
theorem pK {α:Type} {l:List α} {i j:Nat} {x:α} (h:i≠j):(l.set i x)[j]?=l[j]?:=by rw[List.getElem?_set,if_neg h]
theorem pJ {α:Type} {l:List α} {i:Nat} {x y:α} (h:l[i]?=some y):(l.set i x)[i]?=some x:=by
 have hi:=(List.getElem?_eq_some_iff.mp h).1;rw[List.getElem?_set,if_pos rfl,if_pos hi]
theorem frz1_kp {i:Nat} (h:frz1 st i=some st'):Kp st st'/\∃d,st'[i]?=some (.v d)/\(st[i]?).bind Sl.get=some d:=by
 unfold frz1 at h;split at h
 ·rename_i d e
  cases h;exact⟨Kp.refl st,d,e,by rw[e];rfl⟩
 ·rename_i d e
  cases h;refine⟨⟨by simp,fun j s hj g=>?_,fun j d' hj=>?_⟩,d,pJ e,by rw[e];rfl⟩
  ·by_cases q:i=j
   ·subst q;exact⟨.v d,pJ e,by simp[Sl.get]⟩
   ·exact⟨s,by rw[pK q];exact hj,g⟩
  ·have q:i≠j:=fun z=>by subst z;rw[e]at hj;cases hj
   exact⟨d',by rw[pK q];exact hj⟩
 ·cases h
theorem ER.frz {i:Nat} (E:ER K st σ H O Z) (h:frz1 st i=some st'):∃O',Ext O H O' H/\ER K st' σ H O' Z/\(∀b,O' b->O b):=by
 unfold frz1 at h;split at h
 ·cases h;exact⟨O,Ext.refl O H,E,fun _ z=>z⟩
 ·rename_i d e
  cases h;obtain⟨p,g1,g2,g3⟩:=E.own i _ _ e rfl;have less:∀b,U (fun b=>O b/\b≠p) Z b->U O Z b:=fun b z=>z.elim (fun q=>.inl q.1) .inr;refine⟨fun b=>O b/\b≠p,⟨fun b o q _=>q,fun b z=>.inl z.1,fun b z=>z,fun b z=>z⟩,⟨by simp[E.len],fun j x hj=>?_,fun j s x hj hs=>?_,fun j k s t x y q hj hs hk ht e1 e2=>?_,fun q hq=>E.dis q hq.1,fun q hq=>E.liv q (less q hq)⟩,fun b z=>z.1⟩
  ·by_cases q:i=j
   ·subst q;rw[pJ e]at hj;cases hj;exact⟨.ref p,g1,g3.da (fun z=>z.elim (fun y=>y.2 rfl) (E.dis p g2)) less⟩
   ·rw[pK q]at hj;obtain⟨v,h1,h2⟩:=E.val j x hj;exact⟨v,h1,h2.less less⟩
  ·have q:i≠j:=fun z=>by
    subst z;rw[pJ e]at hj;cases hj;cases hs
   rw[pK q]at hj;obtain⟨r,h1,h2,h3⟩:=E.own j s x hj hs;refine⟨r,h1,⟨h2,fun z=>q ?_⟩,h3.go rfl (fun _ _ e _=>e) fun b z=>.inl (less b z)⟩;subst z;exact E.uni i j _ _ _ _ r e rfl hj hs g1 h1
  ·have q1:i≠j:=fun z=>by
    subst z;rw[pJ e]at hj;cases hj;cases hs
   have q2:i≠k:=fun z=>by
    subst z;rw[pJ e]at hk;cases hk;cases ht
   rw[pK q1]at hj;rw[pK q2]at hk;exact E.uni j k s t x y q hj hs hk ht e1 e2
 ·cases h
theorem RVal.frz {r:Rs} (h:RVal K Z st σ H O v r) (E:ER K st σ H O Z) (f:frzR st r=some st') (c:cont st r=some d):∃O',Ext O H O' H/\Kp st st'/\ER K st' σ H O' Z/\DA K (U O' Z) H v d:=by
 cases r with
 | d x=>cases f;cases c;exact⟨O,Ext.refl O H,Kp.refl st,E,h⟩
 | f x=>cases f;cases c;exact⟨O,Ext.refl O H,Kp.refl st,E,RVal.nf h⟩
 | s i =>
  obtain⟨h1,s,h2,h3⟩:=h;have f':frz1 st i=some st':=f;obtain⟨k,x,k1,k2⟩:=frz1_kp f';obtain⟨O',e1,e2,_⟩:=E.frz f';have c':(st[i]?).bind Sl.get=some d:=c;have ex:x=d:=Option.some.inj (k2.symm.trans c');subst ex;obtain⟨u,g1,g2⟩:=e2.val i _ k1;rw[h1]at g1;cases g1;exact⟨O',e1,k,e2,g2⟩
theorem ER.write {i:Nat} {s:Sl} {x y:D} {o:HO} (E:ER K st σ H O Z) (hs:st[i]?=some s) (ho:s.ow=some x) (hp:σ[i]?=some (some (.ref p))) (new:OA K (U O Z) (upd H p o) p y) :
  ER K (st.set i (s.put y)) σ (upd H p o) O Z/\Ext O H O (upd H p o)/\Kp st (st.set i (s.put y)):=by
 obtain⟨q,g1,g2,g3⟩:=E.own i s x hs ho;have eq:q=p:=by rw[hp]at g1;cases g1;rfl
 subst eq;have keep:∀b u,H b=some u->¬ U O Z b->upd H q o b=some u:=fun b u e n=>by
  have hb:b≠q:=fun z=>n (.inl (by rw[z];exact g2))
  rw[upd_ne hb];exact e
 refine⟨⟨by simp[E.len],fun j d hj=>?_,fun j t d hj ht=>?_,fun j k t t' d d' r hj ht hk ht' e1 e2=>?_,E.dis,fun r hr=>?_⟩,⟨fun b u e n=>?_,fun b z=>.inl z,fun b z=>?_,fun b z=>?_⟩,⟨by simp,fun j t hj ht=>?_,fun j d hj=>?_⟩⟩
 ·by_cases e:i=j
  ·subst e;rw[pJ hs]at hj;exact absurd (Option.some.inj hj) (Sl.put_v _ _ _)
  ·rw[pK e]at hj;obtain⟨v,h1,h2⟩:=E.val j d hj;exact⟨v,h1,h2.go keep fun b z=>.inl z⟩
 ·by_cases e:i=j
  ·subst e;rw[pJ hs]at hj;have:=Option.some.inj hj;subst this;rw[Sl.put_ow]at ht;cases ht;exact⟨q,hp,g2,new⟩
  ·rw[pK e]at hj;obtain⟨r,h1,h2,h3⟩:=E.own j t d hj ht;have hne:r≠q:=fun z=>by subst z;exact e (E.uni i j s t x d r hs ho hj ht hp h1)
   exact⟨r,h1,h2,h3.go (upd_ne hne) keep fun b z=>.inl z⟩
 ·have own':∀(m:Nat) (t:Sl) (d:D),(st.set i (s.put y))[m]?=some t->t.ow=some d->∃t2 d2,st[m]?=some t2/\t2.ow=some d2:=fun m t d hm ht=>by
   by_cases e:i=m
   ·subst e;exact⟨s,x,hs,ho⟩
   ·rw[pK e]at hm;exact⟨t,d,hm,ht⟩
  obtain⟨t1,d1,a1,b1⟩:=own' j t d hj ht;obtain⟨t2,d2,a2,b2⟩:=own' k t' d' hk ht';exact E.uni j k t1 t2 d1 d2 r a1 b1 a2 b2 e1 e2
 ·by_cases e:r=q
  ·subst e;exact new.lv
  ·exact(E.liv r hr).same fun o' eo=>by rw[upd_ne e];exact eo
 ·have hb:b≠q:=fun z=>n (by rw[z];exact g2)
  rw[upd_ne hb];exact e
 ·by_cases e:b=q
  ·subst e;rw[upd_same];simp
  ·rw[upd_ne e];exact z
 ·by_cases e:b=q
  ·subst e;exact new.lv
  ·exact z.same fun o' eo=>by rw[upd_ne e];exact eo
 ·by_cases e:i=j
  ·subst e;exact⟨s.put y,pJ hs,by cases s<;>simp[Sl.put,Sl.get]⟩
  ·exact⟨t,by rw[pK e];exact hj,ht⟩
 ·by_cases e:i=j
  ·subst e;rw[hs]at hj;cases hj;exact⟨y,pJ hs⟩
  ·exact⟨d,by rw[pK e];exact hj⟩
end
end VF
namespace VF
open PySem L2
noncomputable abbrev FE:=En->Option (Rs×En)
noncomputable abbrev FA:=En->Option (List Rs×En)
noncomputable abbrev FT:=En->Option (Bool×En)
noncomputable abbrev Rz:=D×Bool
noncomputable def mk:Rz->Rs
 | (d,true)=>.f d
 | (d,false)=>.d d
noncomputable def RES (K:PySem.W.Frag) (Y:AS) (H H':Hp) (v:V):Rz->Prop
 | (d,true)=>∃p,v=.ref p/\H p=none/\OA K (ins p Y) H' p d
 | (d,false)=>DA K Y H' v d
noncomputable def Fsh (H:Hp) (v:V):Rs->Prop
 | .f _=>∀p,v=.ref p->H p=none
 | _=>True
theorem Ext.dead {O O':AS} {H H':Hp} (e:Ext O H O' H') {p:Addr} (h:H' p=none):H p=none:=by
 cases q:H p with
 | none=>rfl
 | some o=>exact absurd h (e.al p (by rw[q];simp))
theorem Fsh.back {O O':AS} {H H':Hp} {v:V} {r:Rs} (h:Fsh H' v r) (e:Ext O H O' H'):Fsh H v r:=by
 cases r with
 | f x=>exact fun p hp=>e.dead (h p hp)
 | d x=>trivial
 | s i=>trivial
noncomputable def RdE (K:PySem.W.Frag) (te:TE) (f:FE):Prop:=∀(st:En) (σ:St) (H:Hp) (O Z:AS) (Q:VK),ER K st σ H O Z->∀r st',f st=some (r,st') ->
 (∀v H' O',Ext O H O' H'->Kp st st'->ER K st' σ H' O' Z->RVal K Z st' σ H' O' v r->Fsh H v r->Q v H')->te σ H Q
inductive RVs (K:PySem.W.Frag) (Z:AS) (st:En) (σ:St) (H:Hp) (O:AS):List V->List Rs->Prop where
 | nil:RVs K Z st σ H O [] []
 | cons {v:V} {vs:List V} {r:Rs} {rs:List Rs}:RVal K Z st σ H O v r.nf->RVs K Z st σ H O vs rs->RVs K Z st σ H O (v::vs) (r::rs)
noncomputable def RdA (K:PySem.W.Frag) (ta:TA) (f:FA):Prop:=∀(st:En) (σ:St) (H:Hp) (O Z:AS) (Q:List V->Hp->Prop),ER K st σ H O Z->∀rs st',f st=some (rs,st') ->
 (∀vs H' O',Ext O H O' H'->Kp st st'->ER K st' σ H' O' Z->RVs K Z st' σ H' O' vs rs->Q vs H')->ta σ H Q
noncomputable def RdT (K:PySem.W.Frag) (tt:TT) (f:FT):Prop:=∀(st:En) (σ:St) (H:Hp) (O Z:AS) (Q:Bool->Hp->Prop),ER K st σ H O Z->∀c st',f st=some (c,st') ->
 (∀H' O',Ext O H O' H'->Kp st st'->ER K st' σ H' O' Z->Q c H')->tt σ H Q
noncomputable def RdOp (K:PySem.W.Frag) (r:R2) (b:D->D->Option Rz):Prop:=∀(Y:AS) (H:Hp) (x y:V) (d1 d2:D) (z:Rz) (Q:VK),(∀p,Y p->Lv H p)->BA K Y H x d1->BA K Y H y d2->b d1 d2=some z ->
 (∀v H',Same H H'->RES K Y H H' v z->Q v H')->r x y H Q
noncomputable def RdUn (K:PySem.W.Frag) (r:V->Hp->VK->Prop) (b:D->Option Rz):Prop:=∀(Y:AS) (H:Hp) (x:V) (d1:D) (z:Rz) (Q:VK),(∀p,Y p->Lv H p)->BA K Y H x d1->b d1=some z ->
 (∀v H',Same H H'->RES K Y H H' v z->Q v H')->r x H Q
inductive BAs (K:PySem.W.Frag) (Y:AS) (H:Hp):List V->List D->Prop where
 | nil:BAs K Y H [] []
 | cons {v:V} {vs:List V} {d:D} {ds:List D}:BA K Y H v d->BAs K Y H vs ds->BAs K Y H (v::vs) (d::ds)
noncomputable def RdCB (K:PySem.W.Frag) (r:List V->Hp->VK->Prop) (b:List D->Option Rz):Prop:=∀(Y:AS) (H:Hp) (xs:List V) (ds:List D) (z:Rz) (Q:VK),(∀p,Y p->Lv H p)->BAs K Y H xs ds->b ds=some z ->
 (∀v H',Same H H'->RES K Y H H' v z->Q v H')->r xs H Q
section
variable {K:PySem.W.Frag} {Y Y' O O' O1 O2 Z:AS} {H H' H1 H2:Hp} {v:V} {d:D} {vs:List V} {ds:List D} {a p:Addr} {st st' st1 st2:En} {σ σ':St}
theorem RES.rv {z:Rz} (E:ER K st σ H O Z) (s:Same H H') (h:RES K (U O Z) H H' v z):ER K st σ H' O Z/\RVal K Z st σ H' O v (mk z):=by
 obtain⟨d,fr⟩:=z;cases fr with
 | false=>exact⟨E.same s,h⟩
 | true =>
  obtain⟨p,rfl,hp,ho⟩:=h;have hf:=E.free hp;exact⟨E.same s,p,rfl,hf.1,hf.2,ho,E.away s hp ho.lv⟩
theorem RES.fsh {z:Rz} (h:RES K Y H H' v z):Fsh H v (mk z):=by
 obtain⟨d,fr⟩:=z;cases fr with
 | false=>trivial
 | true=>obtain⟨p,rfl,hp,_⟩:=h;exact fun q e=>by cases e;exact hp
theorem RVs.ext {rs:List Rs} (h:RVs K Z st σ H O vs rs) (e:Ext O H O' H') (k:Kp st st'):RVs K Z st' σ H' O' vs rs:=by
 induction h with
 | nil=>exact .nil
 | cons h1 _ ih=>exact .cons (h1.ext e k) ih
noncomputable def contAll (st:En):List Rs->Option (List D)
 | []=>some []
 | r::rs=>(cont st r).bind fun d=>(contAll st rs).bind fun ds=>some (d::ds)
theorem RVs.bas {rs:List Rs} (h:RVs K Z st σ H O vs rs) (E:ER K st σ H O Z):∀{ds:List D},contAll st rs=some ds->BAs K (U O Z) H vs ds:=by
 induction h with
 | nil=>intro ds e;cases e;exact .nil
 | @cons v vs r rs h1 _ ih =>
  intro ds e;obtain⟨d,e1,e⟩:=Option.bind_eq_some_iff.mp e;obtain⟨ds',e2,e⟩:=Option.bind_eq_some_iff.mp e;cases e;exact .cons (h1.ba E (by rw[cont_nf];exact e1)) (ih e2)
noncomputable def escAll:List Rs->En->Option (List D×En)
 | [],st=>some ([],st)
 | r::rs,st=>(cont st r).bind fun d=>(frzR st r).bind fun st1=>(escAll rs st1).bind fun x=>some (d::x.1,x.2)
theorem frzR_nf (st:En) (r:Rs):frzR st r.nf=frzR st r:=by cases r<;>rfl
theorem RVs.esc:∀{rs:List Rs} {vs:List V} {st:En} {O:AS} {ds:List D} {st':En},RVs K Z st σ H O vs rs->ER K st σ H O Z->escAll rs st=some (ds,st')->∃O',Ext O H O' H/\Kp st st'/\ER K st' σ H O' Z/\El K (U O' Z) H vs ds
 | [],_,st,O,ds,st',.nil,E,e=>by cases e;exact⟨O,Ext.refl O H,Kp.refl _,E,El.nil⟩
 | r::rs,_,st,O,ds,st',.cons h1 h2,E,e=>by
  obtain⟨d,e1,e⟩:=Option.bind_eq_some_iff.mp e;obtain⟨st1,e2,e⟩:=Option.bind_eq_some_iff.mp e;obtain⟨⟨ds2,st2⟩,e3,e⟩:=Option.bind_eq_some_iff.mp e;cases e;obtain⟨O1,x1,k1,E1,da⟩:=h1.frz E (by rw[frzR_nf];exact e2) (by rw[cont_nf];exact e1)
  obtain⟨O2,x2,k2,E2,el⟩:=RVs.esc (h2.ext x1 k1) E1 e3;exact⟨O2,x1.trans x2,k1.trans k2,E2,El.cons (da.ext x2) el⟩
noncomputable def fVar (i:Nat):FE:=fun st=>match st[i]? with
 | some (.v d)=>some (.d d,st)
 | some (.o _)=>some (.s i,st)
 | some (.io _)=>some (.s i,st)
 | _=>none
theorem rV (i:Nat):RdE K (tVar i) (fVar i):=by
 intro st σ H O Z Q E r st' h q;unfold fVar at h;split at h
 ·rename_i d e
  cases h;obtain⟨v,h1,h2⟩:=E.val i d e;exact⟨v,h1,q v H O (Ext.refl O H) (Kp.refl _) E h2 True.intro⟩
 ·rename_i d e
  cases h;obtain⟨p,h1,h2,h3⟩:=E.own i _ _ e rfl;exact⟨.ref p,h1,q _ H O (Ext.refl O H) (Kp.refl _) E ⟨h1,_,e,by simp[Sl.get]⟩ True.intro⟩
 ·rename_i d e
  cases h;obtain⟨p,h1,h2,h3⟩:=E.own i _ _ e rfl;exact⟨.ref p,h1,q _ H O (Ext.refl O H) (Kp.refl _) E ⟨h1,_,e,by simp[Sl.get]⟩ True.intro⟩
 ·cases h
noncomputable def fC (d:D):FE:=fun st=>some (.d d,st)
theorem rd_c {v:V} {d:D} (h:∀Y H,DA K Y H v d):RdE K (tC v) (fC d):=by
 intro st σ H O Z Q E r st' e q;cases e;exact q v H O (Ext.refl O H) (Kp.refl _) E (h _ _) True.intro
theorem rN (i:Int):RdE K (tC (.int i)) (fC (.int i)):=rd_c fun _ _=>.int i
theorem rd_bl (b:Bool):RdE K (tC (.bl b)) (fC (.bl b)):=rd_c fun _ _=>.bl b
noncomputable def fOp (b:D->D->Option Rz) (fa fb:FE):FE:=fun st=>(fa st).bind fun x=>(fb x.2).bind fun y=>(cont y.2 x.1).bind fun d1=>(cont y.2 y.1).bind fun d2=>(b d1 d2).bind fun z=>some (mk z,y.2)
theorem rW {r:R2} {b:D->D->Option Rz} {ta tb:TE} {fa fb:FE} (hr:RdOp K r b) (ha:RdE K ta fa) (hb:RdE K tb fb):RdE K (tOp r ta tb) (fOp b fa fb):=by
 intro st σ H O Z Q E r' st' h q;obtain⟨⟨r1,st1⟩,e1,h⟩:=Option.bind_eq_some_iff.mp h;obtain⟨⟨r2,st2⟩,e2,h⟩:=Option.bind_eq_some_iff.mp h;obtain⟨d1,e3,h⟩:=Option.bind_eq_some_iff.mp h;obtain⟨d2,e4,h⟩:=Option.bind_eq_some_iff.mp h;obtain⟨z,e5,h⟩:=Option.bind_eq_some_iff.mp h;cases h;refine ha st σ H O Z _ E r1 st1 e1 fun v1 H1 O1 x1 k1 E1 rv1 w1=>?_;refine hb st1 σ H1 O1 Z _ E1 r2 st2 e2 fun v2 H2 O2 x2 k2 E2 rv2 w2=>?_;have b1:=(rv1.nf.ext x2 k2).ba E2 (by rw[cont_nf];exact e3)
 refine hr (U O2 Z) H2 v1 v2 d1 d2 z _ E2.liv b1 (rv2.ba E2 e4) e5 fun v H3 s hres=>?_;obtain⟨E3,rv3⟩:=hres.rv E2 s;exact q v H3 O2 ((x1.trans x2).trans (Same.ext s)) (k1.trans k2) E3 rv3 (hres.fsh.back (x1.trans x2))
noncomputable def fUn (b:D->Option Rz) (fa:FE):FE:=fun st=>(fa st).bind fun x=>(cont x.2 x.1).bind fun d1=>(b d1).bind fun z=>some (mk z,x.2)
theorem rd_un {r:V->Hp->VK->Prop} {b:D->Option Rz} {ta:TE} {fa:FE} (hr:RdUn K r b) (ha:RdE K ta fa):RdE K (tUn r ta) (fUn b fa):=by
 intro st σ H O Z Q E r' st' h q;obtain⟨⟨r1,st1⟩,e1,h⟩:=Option.bind_eq_some_iff.mp h;obtain⟨d1,e3,h⟩:=Option.bind_eq_some_iff.mp h;obtain⟨z,e5,h⟩:=Option.bind_eq_some_iff.mp h;cases h;refine ha st σ H O Z _ E r1 st1 e1 fun v1 H1 O1 x1 k1 E1 rv1 w1=>?_;refine hr (U O1 Z) H1 v1 d1 z _ E1.liv (rv1.ba E1 e3) e5 fun v H3 s hres=>?_;obtain⟨E3,rv3⟩:=hres.rv E1 s;exact q v H3 O1 (x1.trans (Same.ext s)) k1 E3 rv3 (hres.fsh.back x1)
noncomputable def tru (st:En) (r:Rs):Option Bool:=match cont st r with
 | some (.bl c)=>some c
 | _=>none
theorem tru_v {r:Rs} {c:Bool} (E:ER K st σ H O Z) (h:RVal K Z st σ H O v r) (t:tru st r=some c):v=.bl c:=by
 unfold tru at t;split at t
 ·rename_i b e
  cases t;exact h.ba E e
 ·cases t
noncomputable def fTest (fa:FE):FT:=fun st=>(fa st).bind fun x=>(tru x.2 x.1).bind fun c=>some (c,x.2)
theorem rd_test {ta:TE} {fa:FE} (ha:RdE K ta fa):RdT K (tTest ta) (fTest fa):=by
 intro st σ H O Z Q E c st' h q;obtain⟨⟨r1,st1⟩,e1,h⟩:=Option.bind_eq_some_iff.mp h;obtain⟨c',e2,h⟩:=Option.bind_eq_some_iff.mp h;cases h;exact ha st σ H O Z _ E r1 st1 e1 fun v1 H1 O1 x1 k1 E1 rv1 w1=>⟨c,tru_v E1 rv1 e2,q H1 O1 x1 k1 E1⟩
theorem rd_tB {ta:TE} {fa:FE} (ha:RdE K ta fa):RdT K (tB ta) (fTest fa):=rd_test ha
noncomputable def fNotT (f:FT):FT:=fun st=>(f st).bind fun x=>some (!x.1,x.2)
theorem rd_notT {t:TT} {f:FT} (h:RdT K t f):RdT K (tNot t) (fNotT f):=by
 intro st σ H O Z Q E c st' e q;obtain⟨⟨c1,st1⟩,e1,e⟩:=Option.bind_eq_some_iff.mp e;cases e;exact h st σ H O Z _ E c1 st1 e1 q
noncomputable def fAndT (f g:FT):FT:=fun st=>(f st).bind fun x=>if x.1=true then g x.2 else some (false,x.2)
theorem rd_andT {t u:TT} {f g:FT} (h:RdT K t f) (h':RdT K u g):RdT K (tAnd t u) (fAndT f g):=by
 intro st σ H O Z Q E c st' e q;obtain⟨⟨c1,st1⟩,e1,e⟩:=Option.bind_eq_some_iff.mp e;refine h st σ H O Z _ E c1 st1 e1 fun H1 O1 x1 k1 E1=>?_;cases c1 with
 | true =>
  rw[if_pos rfl]at e ⊢;exact h' st1 σ H1 O1 Z _ E1 c st' e fun H2 O2 x2 k2 E2=>q H2 O2 (x1.trans x2) (k1.trans k2) E2
 | false =>
  simp only[Bool.false_eq_true,if_false]at e ⊢;cases e;exact q H1 O1 x1 k1 E1
noncomputable def fOrT (f g:FT):FT:=fun st=>(f st).bind fun x=>if x.1=true then some (true,x.2) else g x.2
theorem rd_orT {t u:TT} {f g:FT} (h:RdT K t f) (h':RdT K u g):RdT K (tOr t u) (fOrT f g):=by
 intro st σ H O Z Q E c st' e q;obtain⟨⟨c1,st1⟩,e1,e⟩:=Option.bind_eq_some_iff.mp e;refine h st σ H O Z _ E c1 st1 e1 fun H1 O1 x1 k1 E1=>?_;cases c1 with
 | true =>
  rw[if_pos rfl]at e ⊢;cases e;exact q H1 O1 x1 k1 E1
 | false =>
  simp only[Bool.false_eq_true,if_false]at e ⊢;exact h' st1 σ H1 O1 Z _ E1 c st' e fun H2 O2 x2 k2 E2=>q H2 O2 (x1.trans x2) (k1.trans k2) E2
noncomputable def fYes:FT:=fun st=>some (true,st)
theorem rd_yes:RdT K tYes fYes:=by
 intro st σ H O Z Q E c st' e q;cases e;exact q H O (Ext.refl O H) (Kp.refl _) E
noncomputable def fAndV (fa fb:FE):FE:=fun st=>(fa st).bind fun x=>(tru x.2 x.1).bind fun c=>if c=true then fb x.2 else some (.d (.bl false),x.2)
theorem rd_andV {ta tb:TE} {fa fb:FE} (ha:RdE K ta fa) (hb:RdE K tb fb):RdE K (tAndV ta tb) (fAndV fa fb):=by
 intro st σ H O Z Q E r st' h q;obtain⟨⟨r1,st1⟩,e1,h⟩:=Option.bind_eq_some_iff.mp h;obtain⟨c,e2,h⟩:=Option.bind_eq_some_iff.mp h;refine ha st σ H O Z _ E r1 st1 e1 fun v1 H1 O1 x1 k1 E1 rv1 w1=>⟨c,tru_v E1 rv1 e2,?_⟩;cases c with
 | true =>
  rw[if_pos rfl]at h ⊢;exact hb st1 σ H1 O1 Z _ E1 r st' h fun v H2 O2 x2 k2 E2 rv w2=>q v H2 O2 (x1.trans x2) (k1.trans k2) E2 rv (w2.back x1)
 | false =>
  rw[if_neg (by decide)]at h ⊢
  cases h;exact q _ H1 O1 x1 k1 E1 (.bl false) True.intro
noncomputable def fOrV (fa fb:FE):FE:=fun st=>(fa st).bind fun x=>(tru x.2 x.1).bind fun c=>if c=true then some (.d (.bl true),x.2) else fb x.2
theorem rd_orV {ta tb:TE} {fa fb:FE} (ha:RdE K ta fa) (hb:RdE K tb fb):RdE K (tOrV ta tb) (fOrV fa fb):=by
 intro st σ H O Z Q E r st' h q;obtain⟨⟨r1,st1⟩,e1,h⟩:=Option.bind_eq_some_iff.mp h;obtain⟨c,e2,h⟩:=Option.bind_eq_some_iff.mp h;refine ha st σ H O Z _ E r1 st1 e1 fun v1 H1 O1 x1 k1 E1 rv1 w1=>⟨c,tru_v E1 rv1 e2,?_⟩;cases c with
 | true =>
  rw[if_pos rfl]at h ⊢;cases h;exact q _ H1 O1 x1 k1 E1 (.bl true) True.intro
 | false =>
  rw[if_neg (by decide)]at h ⊢
  exact hb st1 σ H1 O1 Z _ E1 r st' h fun v H2 O2 x2 k2 E2 rv w2=>q v H2 O2 (x1.trans x2) (k1.trans k2) E2 rv (w2.back x1)
noncomputable def fNotV (fa:FE):FE:=fun st=>(fa st).bind fun x=>(tru x.2 x.1).bind fun c=>some (.d (.bl (!c)),x.2)
theorem rd_notV {ta:TE} {fa:FE} (ha:RdE K ta fa):RdE K (tNotV ta) (fNotV fa):=by
 intro st σ H O Z Q E r st' h q;obtain⟨⟨r1,st1⟩,e1,h⟩:=Option.bind_eq_some_iff.mp h;obtain⟨c,e2,h⟩:=Option.bind_eq_some_iff.mp h;cases h;exact ha st σ H O Z _ E r1 st1 e1 fun v1 H1 O1 x1 k1 E1 rv1 w1=>⟨c,tru_v E1 rv1 e2,q _ H1 O1 x1 k1 E1 (.bl _) True.intro⟩
noncomputable def fNil:FA:=fun st=>some ([],st)
theorem rK:RdA K tNil fNil:=by
 intro st σ H O Z Q E rs st' e q;cases e;exact q [] H O (Ext.refl O H) (Kp.refl _) E .nil
noncomputable def rZ (fa:FE) (fr:FA):FA:=fun st=>(fa st).bind fun x=>(fr x.2).bind fun y=>some (x.1::y.1,y.2)
theorem rC {ta:TE} {fa:FE} {tr:TA} {fr:FA} (ha:RdE K ta fa) (hr:RdA K tr fr):RdA K (tCons ta tr) (rZ fa fr):=by
 intro st σ H O Z Q E rs st' h q;obtain⟨⟨r1,st1⟩,e1,h⟩:=Option.bind_eq_some_iff.mp h;obtain⟨⟨rs2,st2⟩,e2,h⟩:=Option.bind_eq_some_iff.mp h;cases h;refine ha st σ H O Z _ E r1 st1 e1 fun v1 H1 O1 x1 k1 E1 rv1 w1=>?_;refine hr st1 σ H1 O1 Z _ E1 rs2 st2 e2 fun vs H2 O2 x2 k2 E2 rvs=>?_;exact q (v1::vs) H2 O2 (x1.trans x2) (k1.trans k2) E2 (.cons (rv1.nf.ext x2 k2) rvs)
theorem few {n:Nat} (h:n<=1000000):n<=sizeLine:=Nat.le_trans h (by decide)
noncomputable def fTup (fa:FA):FE:=fun st=>(fa st).bind fun x=>(escAll x.1 x.2).bind fun y=>if y.1.length<=1000000 then some (.d (.tup y.1),y.2) else none
theorem rd_tup {ta:TA} {fa:FA} (ha:RdA K ta fa):RdE K (tTup ta) (fTup fa):=by
 intro st σ H O Z Q E r st' h q;obtain⟨⟨rs,st1⟩,e1,h⟩:=Option.bind_eq_some_iff.mp h;obtain⟨⟨ds,st2⟩,e2,h⟩:=Option.bind_eq_some_iff.mp h;refine ha st σ H O Z _ E rs st1 e1 fun vs H1 O1 x1 k1 E1 rvs=>?_;obtain⟨O2,x2,k2,E2,el⟩:=rvs.esc E1 e2;by_cases hz:ds.length<=1000000
 ·simp only[if_pos hz]at h;cases h;refine⟨by rw[el.1];exact few hz,fun p hp=>?_⟩
  obtain⟨E3,rv⟩:=E2.newT hp el;exact q _ _ O2 ((x1.trans x2).trans (Same.ext (same_upd hp _))) (k1.trans k2) E3 rv True.intro
 ·simp only[if_neg hz]at h;cases h
noncomputable def fLst (fa:FA):FE:=fun st=>(fa st).bind fun x=>(escAll x.1 x.2).bind fun y=>if y.1.length<=1000000 then some (.f (.lst y.1),y.2) else none
theorem rd_lst {ta:TA} {fa:FA} (ha:RdA K ta fa):RdE K (tLst ta) (fLst fa):=by
 intro st σ H O Z Q E r st' h q;obtain⟨⟨rs,st1⟩,e1,h⟩:=Option.bind_eq_some_iff.mp h;obtain⟨⟨ds,st2⟩,e2,h⟩:=Option.bind_eq_some_iff.mp h;refine ha st σ H O Z _ E rs st1 e1 fun vs H1 O1 x1 k1 E1 rvs=>?_;obtain⟨O2,x2,k2,E2,el⟩:=rvs.esc E1 e2;by_cases hz:ds.length<=1000000
 ·simp only[if_pos hz]at h;cases h;refine⟨by rw[el.1];exact few hz,fun p hp=>?_⟩
  obtain⟨E3,rv⟩:=E2.new hp el;exact q _ _ O2 ((x1.trans x2).trans (Same.ext (same_upd hp _))) (k1.trans k2) E3 rv fun p' e=>by cases e;exact(x1.trans x2).dead hp
 ·simp only[if_neg hz]at h;cases h
noncomputable def fCB (b:List D->Option Rz) (fa:FA):FE:=fun st=>(fa st).bind fun x=>(contAll x.2 x.1).bind fun ds=>(b ds).bind fun z=>some (mk z,x.2)
theorem rd_cb {r:List V->Hp->VK->Prop} {b:List D->Option Rz} {ta:TA} {fa:FA} (hr:RdCB K r b) (ha:RdA K ta fa):RdE K (tCB r ta) (fCB b fa):=by
 intro st σ H O Z Q E r0 st' h q;obtain⟨⟨rs,st1⟩,e1,h⟩:=Option.bind_eq_some_iff.mp h;obtain⟨ds,e2,h⟩:=Option.bind_eq_some_iff.mp h;obtain⟨z,e3,h⟩:=Option.bind_eq_some_iff.mp h;cases h;refine ha st σ H O Z _ E rs st1 e1 fun vs H1 O1 x1 k1 E1 rvs=>?_;refine hr (U O1 Z) H1 vs ds z _ E1.liv (rvs.bas E1 e2) e3 fun v H3 s hres=>?_;obtain⟨E3,rv3⟩:=hres.rv E1 s;exact q v H3 O1 (x1.trans (Same.ext s)) k1 E3 rv3 (hres.fsh.back x1)
end
end VF
namespace VF
open PySem L2
noncomputable def D.isSc:D->Bool
 | .non=>true
 | .bl _=>true
 | .int _=>true
 | .str _=>true
 | .ty _=>true
 | _=>false
noncomputable def spV (K:PySem.W.Frag) (g:List D->Option Rz):Sp:=fun vs H Q _=>∃(Z:AS) (ds:List D) (z:Rz),El K Z H vs ds/\(∀p,Z p->Lv H p)/\g ds=some z/\∀v H',Same H H'->RES K Z H H' v z->Q v H'
noncomputable def RESI (K:PySem.W.Frag) (Y:AS) (f:Addr) (x':D) (H H':Hp) (v:V):Rz->Prop
 | (d,true)=>∃p,v=.ref p/\H p=none/\OA K (ins p Y) H' p d/\OA K (ins p Y) H' f x'
 | (d,false)=>DA K Y H' v d/\OA K Y H' f x'
noncomputable def spIO (K:PySem.W.Frag) (g:D->List D->Option (Rz×D)):Sp:=fun vs H Q _=>∃(f:Addr) (ws:List V) (Z:AS) (x:D) (ds:List D) (z:Rz) (x':D),vs=.ref f::ws/\¬ Z f/\OA K (ins f Z) H f x/\El K (ins f Z) H ws ds/\(∀p,Z p->Lv H p)/\g x ds=some (z,x') /\
 ∀v H',(∀b o,H b=some o->b≠f->H' b=some o)->RESI K (ins f Z) f x' H H' v z->Q v H'
section
variable {K:PySem.W.Frag} {Y Y' O O' O1 O2 Z:AS} {H H' H1 H2:Hp} {v:V} {d:D} {vs:List V} {ds:List D} {a p:Addr} {st st' st1 st2:En} {σ σ':St}
noncomputable def fCall (g:List D->Option Rz) (fa:FA):FE:=fun st=>(fa st).bind fun x=>(escAll x.1 x.2).bind fun y=>(g y.1).bind fun z=>some (mk z,y.2)
theorem rd_call {g:List D->Option Rz} {ta:TA} {fa:FA} (ha:RdA K ta fa):RdE K (tDef (spV K g) ta) (fCall g fa):=by
 intro st σ H O Z Q E r0 st' h q;obtain⟨⟨rs,st1⟩,e1,h⟩:=Option.bind_eq_some_iff.mp h;obtain⟨⟨ds,st2⟩,e2,h⟩:=Option.bind_eq_some_iff.mp h;obtain⟨z,e3,h⟩:=Option.bind_eq_some_iff.mp h;cases h;refine ha st σ H O Z _ E rs st1 e1 fun vs H1 O1 x1 k1 E1 rvs=>?_;obtain⟨O2,x2,k2,E2,el⟩:=rvs.esc E1 e2;refine⟨U O2 Z,ds,z,el,E2.liv,e3,fun v H3 s hres=>?_⟩;obtain⟨E3,rv3⟩:=hres.rv E2 s;exact q v H3 O2 ((x1.trans x2).trans (Same.ext s)) (k1.trans k2) E3 rv3 (hres.fsh.back (x1.trans x2))
theorem RVal.da0 {r:Rs} (h:RVal K Z st σ H O v r) (E:ER K st σ H O Z) (c:cont st r=some d):DA K (fun _=>False) H v d:=by
 cases r with
 | d x=>cases c;exact DA.less (show DA K (U O Z) H v d from h) fun b z=>z.elim
 | f x=>cases c;exact DA.less (show DA K (U O Z) H v d from RVal.nf h) fun b z=>z.elim
 | s i =>
  obtain⟨h1,s,h2,h3⟩:=h;have c':(st[i]?).bind Sl.get=some d:=c;rw[h2]at c';cases s with
  | e=>cases c'
  | v x =>
   cases c';obtain⟨u,g1,g2⟩:=E.val i _ h2;rw[h1]at g1;cases g1;exact g2.less fun b z=>z.elim
  | o x =>
   cases c';obtain⟨p,g1,g2,g3⟩:=E.own i _ _ h2 rfl;rw[h1]at g1;cases g1;exact g3.da (fun z=>z) fun b z=>z.elim
  | io x =>
   cases c';obtain⟨p,g1,g2,g3⟩:=E.own i _ _ h2 rfl;rw[h1]at g1;cases g1;exact g3.da (fun z=>z) fun b z=>z.elim
theorem RVs.el0 {rs:List Rs} (h:RVs K Z st σ H O vs rs) (E:ER K st σ H O Z):∀{ds:List D},contAll st rs=some ds->El K (fun _=>False) H vs ds:=by
 induction h with
 | nil=>intro ds e;cases e;exact El.nil
 | @cons v vs r rs h1 _ ih =>
  intro ds e;obtain⟨d,e1,e⟩:=Option.bind_eq_some_iff.mp e;obtain⟨ds',e2,e⟩:=Option.bind_eq_some_iff.mp e;cases e;exact El.cons (h1.da0 E (by rw[cont_nf];exact e1)) (ih e2)
theorem DA.sc (h:DA K Y H v d) (s:d.isSc=true):DA K Y' H' v d:=by
 cases h with
 | non=>exact .non
 | bl b=>exact .bl b
 | int i=>exact .int i
 | str x=>exact .str x
 | ty n=>exact .ty n
 | _=>cases s
noncomputable def fCallS (g:List D->Option Rz) (fa:FA):FE:=fun st=>(fa st).bind fun x=>(contAll x.2 x.1).bind fun ds=>(g ds).bind fun z=>if (z.1.isSc&&!z.2)=true then some (.d z.1,x.2) else none
theorem rd_callS {g:List D->Option Rz} {ta:TA} {fa:FA} (ha:RdA K ta fa):RdE K (tDef (spV K g) ta) (fCallS g fa):=by
 intro st σ H O Z Q E r0 st' h q;obtain⟨⟨rs,st1⟩,e1,h⟩:=Option.bind_eq_some_iff.mp h;obtain⟨ds,e2,h⟩:=Option.bind_eq_some_iff.mp h;obtain⟨⟨dz,fr⟩,e3,h⟩:=Option.bind_eq_some_iff.mp h;by_cases hc:(dz.isSc&&!fr)=true
 ·simp only[if_pos hc]at h;cases h;have h1:dz.isSc=true/\fr=false:=by simpa using hc
  obtain⟨h1,rfl⟩:=h1;refine ha st σ H O Z _ E rs _ e1 fun vs H1 O1 x1 k1 E1 rvs=>?_;refine⟨fun _=>False,ds,(dz,false),rvs.el0 E1 e2,fun p z=>z.elim,e3,fun v H3 s hres=>?_⟩;exact q v H3 O1 (x1.trans (Same.ext s)) k1 (E1.same s) (DA.sc (show DA K (fun _=>False) H3 v dz from hres) h1) True.intro
 ·simp only[if_neg hc]at h;cases h
theorem callIO_core {i:Nat} {s:Sl} {g:D->List D->Option (Rz×D)} {x x':D} {z:Rz} {Q:VK} {ws:List V} {XE:XK} (E:ER K st σ H O Z) (hs:st[i]?=some s) (hx:s.ow=some x) (hv:σ[i]?=some (some v)) (el:El K (U O Z) H ws ds) (hg:g x ds=some (z,x'))
  (q:∀v H' O',Ext O H O' H'->Kp st (st.set i (s.put x'))->ER K (st.set i (s.put x')) σ H' O' Z->RVal K Z (st.set i (s.put x')) σ H' O' v (mk z)->Fsh H v (mk z)->Q v H'):spIO K g (v::ws) H Q XE:=by
 obtain⟨p,g1,g2,g3⟩:=E.own i s x hs hx;have ev:v=.ref p:=by rw[hv]at g1;cases g1;rfl
 subst ev;have a1:∀b,ins p (fun b=>U O Z b/\b≠p) b->U O Z b:=fun b z=>z.elim (fun q=>by rw[q];exact .inl g2) fun q=>q.1
 have a2:∀b,U O Z b->ins p (fun b=>U O Z b/\b≠p) b:=fun b z=>by
  by_cases e:b=p
  ·exact .inl e
  ·exact .inr ⟨z,e⟩
 refine⟨p,ws,fun b=>U O Z b/\b≠p,x,ds,z,x',rfl,fun z=>z.2 rfl,g3.go rfl (fun _ _ e _=>e) (fun b z=>.inl (a1 b z)),el.less a1,fun b z=>E.liv b z.1,hg,fun u H' kp hres=>?_⟩;have ho:OA K (ins p fun b=>U O Z b/\b≠p) H' p x':=by
  obtain⟨dz,fr⟩:=z;cases fr with
  | false=>exact hres.2
  | true=>obtain⟨r,_,_,_,h⟩:=hres;exact h.go rfl (fun _ _ e _=>e) fun b z=>.inl (.inr z)
 have kp':∀b o,H b=some o->¬ U O Z b->H' b=some o:=fun b o e n=>kp b o e fun z=>n (by rw[z];exact .inl g2)
 have al:∀b,H b≠none->H' b≠none:=fun b hb=>by
  by_cases e:b=p
  ·rw[e];exact ho.live
  ·cases eb:H b with
   | none=>exact absurd eb hb
   | some o=>rw[kp b o eb e];simp
 have al':∀b,Lv H b->Lv H' b:=fun b hb=>by
  by_cases e:b=p
  ·rw[e];exact ho.lv
  ·exact hb.same fun o eb=>kp b o eb e
 have ex:Ext O H O H':=⟨fun b o e n=>kp b o e fun z=>n (by rw[z];exact g2),fun b z=>.inl z,al,al'⟩
 have ho':OA K (U O Z) H' p x':=ho.go rfl (fun _ _ e _=>e) fun b z=>.inl (a2 b z);have mkE:∀(O2:AS),(∀b,O b->O2 b)->(∀b,O2 b->O b∨H b=none)->(∀b,O2 b->¬ Z b)->(∀b,O2 b->Lv H' b)->OA K (U O2 Z) H' p x'->ER K (st.set i (s.put x')) σ H' O2 Z:=fun O2 up dn ds lv ho2=>by
  have nn:∀b,U O2 Z b->U O Z b∨H b=none:=fun b z=>z.elim (fun y=>(dn b y).elim (fun w=>.inl (.inl w)) .inr) fun y=>.inl (.inr y);refine⟨by simp[E.len],fun j d hj=>?_,fun j t d hj ht=>?_,fun j k t t' d d' r hj ht hk ht' e1 e2=>?_,ds,fun r hr=>hr.elim (lv r) fun y=>al' r (E.liv r (.inr y))⟩
  ·by_cases e:i=j
   ·subst e;rw[pJ hs]at hj;exact absurd (Option.some.inj hj) (Sl.put_v _ _ _)
   ·rw[pK e]at hj;obtain⟨v,h1,h2⟩:=E.val j d hj;exact⟨v,h1,h2.go kp' nn⟩
  ·by_cases e:i=j
   ·subst e;rw[pJ hs]at hj;have:=Option.some.inj hj;subst this;rw[Sl.put_ow]at ht;cases ht;exact⟨p,g1,up p g2,ho2⟩
   ·rw[pK e]at hj;obtain⟨r,h1,h2,h3⟩:=E.own j t d hj ht;have hne:r≠p:=fun z=>by subst z;exact e (E.uni i j s t x d r hs hx hj ht g1 h1)
    refine⟨r,h1,up r h2,h3.go ?_ kp' nn⟩;cases er:H r with
    | none=>exact absurd er h3.live
    | some o=>exact kp r o er hne
  ·have own':∀(m:Nat) (t:Sl) (d:D),(st.set i (s.put x'))[m]?=some t->t.ow=some d->∃t2 d2,st[m]?=some t2/\t2.ow=some d2:=fun m t d hm ht=>by
    by_cases e:i=m
    ·subst e;exact⟨s,x,hs,hx⟩
    ·rw[pK e]at hm;exact⟨t,d,hm,ht⟩
   obtain⟨t1,d1,a1,b1⟩:=own' j t d hj ht;obtain⟨t2,d2,a2,b2⟩:=own' k t' d' hk ht';exact E.uni j k t1 t2 d1 d2 r a1 b1 a2 b2 e1 e2
 have kk:Kp st (st.set i (s.put x')):=by
  refine⟨by simp,fun j t hj ht=>?_,fun j d hj=>?_⟩
  ·by_cases e:i=j
   ·subst e;exact⟨s.put x',pJ hs,by cases s<;>simp[Sl.put,Sl.get]⟩
   ·exact⟨t,by rw[pK e];exact hj,ht⟩
  ·by_cases e:i=j
   ·subst e;rw[hs]at hj;cases hj;exact⟨x',pJ hs⟩
   ·exact⟨d,by rw[pK e];exact hj⟩
 have E':=mkE O (fun _ z=>z) (fun _ z=>.inl z) E.dis (fun b z=>al' b (E.liv b (.inl z))) ho';refine q u H' O ex kk E' ?_ ?_
 rotate_left
 ·obtain⟨dz,fr⟩:=z;cases fr with
  | false=>trivial
  | true=>obtain⟨r,rfl,hr,_⟩:=hres;exact fun q e=>by cases e;exact hr
 obtain⟨dz,fr⟩:=z;cases fr with
 | false=>exact DA.less (show DA K _ H' u dz from hres.1) a2
 | true =>
  obtain⟨r,rfl,hr,hor,hof⟩:=hres;have hf:=E.free hr;have a3:∀b,ins r (U O Z) b->ins r (ins p fun b=>U O Z b/\b≠p) b:=fun b z=>z.elim .inl fun y=>.inr (a2 b y);refine⟨r,rfl,hf.1,hf.2,hor.go rfl (fun _ _ e _=>e) (fun b z=>.inl (a3 b z)),mkE (ins r O) (fun _ z=>.inr z) (fun b z=>z.elim (fun y=>.inr (by rw[y];exact hr)) .inl) (fun b z=>z.elim (fun y=>by rw[y];exact hf.2) (E.dis b)) (fun b z=>z.elim (fun y=>by rw[y];exact hor.lv) fun y=>al' b (E.liv b (.inl y))) ?_⟩
  exact hof.go rfl (fun _ _ e _=>e) fun b z=>.inl (a3 b (z.elim (fun y=>y.elim .inl fun w=>.inr (.inl w)) fun y=>.inr (.inr y)))
noncomputable def fIO (g:D->List D->Option (Rz×D)) (i:Nat) (fr:FA):FE:=fun st=>(st[i]?).bind fun s0=>(s0.ow).bind fun _=>(fr st).bind fun x=>(escAll x.1 x.2).bind fun y=>(y.2[i]?).bind fun s=>(s.ow).bind fun d=>(g d y.1).bind fun z=>some (mk z.1,y.2.set i (s.put z.2))
theorem rd_io {g:D->List D->Option (Rz×D)} {i:Nat} {tr:TA} {fr:FA} (hr:RdA K tr fr):RdE K (tDef (spIO K g) (tCons (tVar i) tr)) (fIO g i fr):=by
 intro st σ H O Z Q E r0 st' h q;obtain⟨s0,f1,h⟩:=Option.bind_eq_some_iff.mp h;obtain⟨x0,f2,h⟩:=Option.bind_eq_some_iff.mp h;obtain⟨⟨rs,st1⟩,e1,h⟩:=Option.bind_eq_some_iff.mp h;obtain⟨⟨ds,st2⟩,e2,h⟩:=Option.bind_eq_some_iff.mp h;obtain⟨s,e3,h⟩:=Option.bind_eq_some_iff.mp h;obtain⟨x,e4,h⟩:=Option.bind_eq_some_iff.mp h;obtain⟨⟨z,x'⟩,e5,h⟩:=Option.bind_eq_some_iff.mp h;cases h;obtain⟨p,g1,_,_⟩:=E.own i s0 x0 f1 f2;refine⟨.ref p,g1,?_⟩;refine hr st σ H O Z _ E rs st1 e1 fun vs H1 O1 x1 k1 E1 rvs=>?_;obtain⟨O2,x2,k2,E2,el⟩:=rvs.esc E1 e2;exact callIO_core E2 e3 e4 g1 el e5 fun v H' O' ex kk E' rv w=>q v H' O' ((x1.trans x2).trans ex) ((k1.trans k2).trans kk) E' rv (w.back (x1.trans x2))
end
end VF
namespace VF
open PySem L2
structure Kq (st:En) (σ:St) (st':En) (σ':St):Prop where
 len:st'.length=st.length
 io:∀(i:Nat) d,st[i]?=some (.io d)->σ'[i]?=σ[i]?/\∃d',st'[i]?=some (.io d')
theorem Kq.refl (st:En) (σ:St):Kq st σ st σ:=⟨rfl,fun i d h=>⟨rfl,d,h⟩⟩
theorem Kq.trans {a b c:En} {x y z:St} (h:Kq a x b y) (g:Kq b y c z):Kq a x c z:=by
 refine⟨g.len.trans h.len,fun i d e=>?_⟩;obtain⟨e1,d1,e2⟩:=h.io i d e;obtain⟨e3,d2,e4⟩:=g.io i d1 e2;exact⟨e3.trans e1,d2,e4⟩
theorem Kp.kq {st st':En} {σ:St} (k:Kp st st'):Kq st σ st' σ:=⟨k.len,fun i d h=>⟨rfl,k.io i d h⟩⟩
noncomputable abbrev FG:=D->En->Option En
noncomputable def RdG (K:PySem.W.Frag) (g:TG) (fg:FG) (tg:List Nat):Prop:=∀(st:En) (σ:St) (H:Hp) (O Z:AS) (x:V) (d:D) (Q:St->Hp->Prop),ER K st σ H O Z->DA K (U O Z) H x d->∀st',fg d st=some st' ->
 (∀σ',(∀j,j∉tg->σ'[j]?=σ[j]?/\st'[j]?=st[j]?)->Kq st σ st' σ'->ER K st' σ' H O Z->Q σ' H)->g x σ H Q
noncomputable def Sl.isIo:Sl->Bool
 | .io _=>true
 | _=>false
noncomputable def fPut (i:Nat) (s:Sl) (st:En):Option En:=(st[i]?).bind fun t=>if t.isIo=true then none else some (st.set i s)
section
variable {K:PySem.W.Frag} {Y Y' O O' O1 O2 Z:AS} {H H' H1 H2:Hp} {v:V} {d:D} {vs:List V} {ds:List D} {a p:Addr} {st st' st1 st2:En} {σ σ':St}
theorem fPut_is {i:Nat} {s:Sl} (h:fPut i s st=some st'):∃t,st[i]?=some t/\t.isIo=false/\st'=st.set i s:=by
 obtain⟨t,e,h⟩:=Option.bind_eq_some_iff.mp h;by_cases c:t.isIo=true
 ·simp only[if_pos c]at h;cases h
 ·simp only[if_neg c]at h;cases h;exact⟨t,e,by simpa using c,rfl⟩
theorem kq_put {i:Nat} {s t:Sl} {w:Option V} (e:st[i]?=some t) (n:t.isIo=false):Kq st σ (st.set i s) (σ.set i w):=by
 refine⟨by simp,fun j d h=>?_⟩
 have q:i≠j:=fun z=>by subst z;rw[e]at h;cases h;cases n
 exact⟨pK q,d,by rw[pK q];exact h⟩
theorem ER.asg {i:Nat} {t:Sl} (E:ER K st σ H O Z) (e:st[i]?=some t) (h:DA K (U O Z) H v d):ER K (st.set i (.v d)) (σ.set i (some v)) H O Z:=by
 have hi:i<σ.length:=by rw[← E.len];exact(List.getElem?_eq_some_iff.mp e).1
 have sg:(σ.set i (some v))[i]?=some (some v):=by rw[List.getElem?_set,if_pos rfl,if_pos hi]
 have ne:∀(j:Nat) s x,(st.set i (.v d))[j]?=some s->s.ow=some x->i≠j/\st[j]?=some s:=fun j s x h1 h2=>by
  by_cases q:i=j
  ·subst q;rw[pJ e]at h1;cases h1;cases h2
  ·exact⟨q,by rw[pK q]at h1;exact h1⟩
 refine⟨by simp[E.len],fun j x hj=>?_,fun j s x h1 h2=>?_,fun j k s s' x x' r h1 h2 h3 h4 h5 h6=>?_,E.dis,E.liv⟩
 ·by_cases q:i=j
  ·subst q;rw[pJ e]at hj;cases hj;exact⟨v,sg,h⟩
  ·rw[pK q]at hj;obtain⟨w,g1,g2⟩:=E.val j x hj;exact⟨w,by rw[pK q];exact g1,g2⟩
 ·obtain⟨q,h1⟩:=ne j s x h1 h2;obtain⟨r,g1,g2⟩:=E.own j s x h1 h2;exact⟨r,by rw[pK q];exact g1,g2⟩
 ·obtain⟨q1,h1⟩:=ne j s x h1 h2;obtain⟨q2,h3⟩:=ne k s' x' h3 h4;rw[pK q1]at h5;rw[pK q2]at h6;exact E.uni j k s s' x x' r h1 h2 h3 h4 h5 h6
theorem ER.asgF {i:Nat} {t:Sl} {x:D} (E0:ER K st σ H O Z) (E:ER K st σ H (ins p O) Z) (np:¬ O p) (e:st[i]?=some t) (h:OA K (ins p (U O Z)) H p x):ER K (st.set i (.o x)) (σ.set i (some (.ref p))) H (ins p O) Z:=by
 have hi:i<σ.length:=by rw[← E.len];exact(List.getElem?_eq_some_iff.mp e).1
 have sg:(σ.set i (some (V.ref p)))[i]?=some (some (.ref p)):=by rw[List.getElem?_set,if_pos rfl,if_pos hi]
 have fresh:∀(j:Nat) s y,st[j]?=some s->s.ow=some y->σ[j]?≠some (some (.ref p)):=fun j s y h1 h2 z=>by
  obtain⟨r,g1,g2,_⟩:=E0.own j s y h1 h2;rw[z]at g1;cases g1;exact np g2
 refine⟨by simp[E.len],fun j y hj=>?_,fun j s y h1 h2=>?_,fun j k s s' y y' r h1 h2 h3 h4 h5 h6=>?_,E.dis,E.liv⟩
 ·by_cases q:i=j
  ·subst q;rw[pJ e]at hj;cases hj
  ·rw[pK q]at hj;obtain⟨w,g1,g2⟩:=E.val j y hj;exact⟨w,by rw[pK q];exact g1,g2⟩
 ·by_cases q:i=j
  ·subst q;rw[pJ e]at h1;cases h1;cases h2;refine⟨p,sg,.inl rfl,h.go rfl (fun _ _ e _=>e) fun b z=>.inl ?_⟩;rcases z with(z|z)|z
   ·exact .inl z
   ·exact .inr (.inl z)
   ·exact .inr (.inr z)
  ·rw[pK q]at h1;obtain⟨r,g1,g2⟩:=E.own j s y h1 h2;exact⟨r,by rw[pK q];exact g1,g2⟩
 ·by_cases q1:i=j
  ·by_cases q2:i=k
   ·exact q1.symm.trans q2
   ·subst q1;rw[pK q2]at h3 h6;rw[sg]at h5;cases h5;exact absurd h6 (fresh k s' y' h3 h4)
  ·by_cases q2:i=k
   ·subst q2;rw[pK q1]at h1 h5;rw[sg]at h6;cases h6;exact absurd h5 (fresh j s y h1 h2)
   ·rw[pK q1]at h1 h5;rw[pK q2]at h3 h6;exact E.uni j k s s' y y' r h1 h2 h3 h4 h5 h6
noncomputable def gN (i:Nat):FG:=fun d st=>fPut i (.v d) st
theorem rg_name (i:Nat):RdG K (gName i) (gN i) [i]:=by
 intro st σ H O Z x d Q E da st' h q;obtain⟨t,e,n,rfl⟩:=fPut_is h;refine q (σ.set i (some x)) (fun j hj=>?_) (kq_put e n) (E.asg e da);have q:i≠j:=fun z=>hj (by rw[z];simp)
 exact⟨pK q,pK q⟩
noncomputable def RdGs (K:PySem.W.Frag) (g:TGs) (fg:List D->En->Option En) (tg:List Nat):Prop:=∀(st:En) (σ:St) (H:Hp) (O Z:AS) (xs:List V) (ds:List D) (Q:St->Hp->Prop),ER K st σ H O Z->El K (U O Z) H xs ds->∀st',fg ds st=some st' ->
 (∀σ',(∀j,j∉tg->σ'[j]?=σ[j]?/\st'[j]?=st[j]?)->Kq st σ st' σ'->ER K st' σ' H O Z->Q σ' H)->g xs σ H Q
noncomputable def gsN:List D->En->Option En:=fun ds st=>match ds with
 | []=>some st
 | _=>none
theorem rgs_nil:RdGs K gNil gsN []:=by
 intro st σ H O Z xs ds Q E el st' h q;cases ds with
 | nil =>
  cases h;exact⟨el.unnil,q σ (fun j _=>⟨rfl,rfl⟩) (Kq.refl _ _) E⟩
 | cons d ds=>cases h
noncomputable def gsC (fg:FG) (fgs:List D->En->Option En):List D->En->Option En:=fun ds st=>match ds with
 | d::r=>(fg d st).bind fun st1=>fgs r st1
 | []=>none
theorem rgs_cons {g:TG} {gs:TGs} {fg:FG} {fgs:List D->En->Option En} {t1 t2:List Nat} (h1:RdG K g fg t1) (h2:RdGs K gs fgs t2):RdGs K (gCons g gs) (gsC fg fgs) (t1++t2):=by
 intro st σ H O Z xs ds Q E el st' h q;cases ds with
 | nil=>cases h
 | cons d ds =>
  obtain⟨st1,e1,h⟩:=Option.bind_eq_some_iff.mp h;obtain⟨v,r,rfl,da,el⟩:=el.uncons;refine⟨v,r,rfl,h1 st σ H O Z v d _ E da st1 e1 fun σ1 k1 q1 E1=>?_⟩;refine h2 st1 σ1 H O Z r ds _ E1 el st' h fun σ2 k2 q2 E2=>q σ2 (fun j hj=>?_) (q1.trans q2) E2;have a:=k1 j fun z=>hj (List.mem_append_left _ z);have b:=k2 j fun z=>hj (List.mem_append_right _ z);exact⟨b.1.trans a.1,b.2.trans a.2⟩
noncomputable def gT (n:Nat) (fgs:List D->En->Option En):FG:=fun d st=>match d with
 | .tup ds=>if ds.length=n then fgs ds st else none
 | _=>none
theorem rg_tup {n:Nat} {gs:TGs} {fgs:List D->En->Option En} {t:List Nat} (h:RdGs K gs fgs t):RdG K (gTup K n gs) (gT n fgs) t:=by
 intro st σ H O Z x d Q E da st' e q;cases d with
 | tup ds =>
  by_cases hn:ds.length=n
  ·simp only[gT,if_pos hn]at e;cases da with
   | tup h1 h2 h3=>exact⟨_,_,rfl,h1.sq,h2.trans hn,h st σ H O Z _ ds Q E ⟨h2,h3⟩ st' e q⟩
  ·simp only[gT,if_neg hn]at e;cases e
 | _=>cases e
noncomputable abbrev FI:=En->Option (List D×En)
noncomputable def ItOk (K:PySem.W.Frag) (Z:AS) (J:It) (items:List D) (H:Hp) (O:AS):Prop:=∀H' O',Ext O H O' H'->(∀p,U O' Z p->Lv H' p)->(∀i,items.length<=i->J.stop i H')/\∀(i:Nat) d,items[i]?=some d->J.go i H'/\∀x H'',J.yld i H' x H''->Same H' H''/\DA K (U O' Z) H'' x d
noncomputable def RdI (K:PySem.W.Frag) (wi:TI) (fi:FI):Prop:=∀(st:En) (σ:St) (H:Hp) (O Z:AS) (R:It->Hp->Prop),ER K st σ H O Z->∀items st',fi st=some (items,st') ->
 (∀J H' O',Ext O H O' H'->Kp st st'->ER K st' σ H' O' Z->ItOk K Z J items H' O'->R J H')->wi σ H R
noncomputable def esc (r:Rs) (st:En):Option (D×En):=(cont st r).bind fun d=>(frzR st r).bind fun st1=>some (d,st1)
theorem RVal.esc {r:Rs} (h:RVal K Z st σ H O v r) (E:ER K st σ H O Z) (e:esc r st=some (d,st')):∃O',Ext O H O' H/\Kp st st'/\ER K st' σ H O' Z/\DA K (U O' Z) H v d:=by
 obtain⟨x,e1,e⟩:=Option.bind_eq_some_iff.mp e;obtain⟨s1,e2,e⟩:=Option.bind_eq_some_iff.mp e;cases e;exact h.frz E e2 e1
noncomputable def D.its:D->Option (List D)
 | .lst ds=>some ds
 | .fl ds=>some ds
 | _=>none
noncomputable def D.itt:D->Option (List D)
 | .tup ds=>some ds
 | _=>none
noncomputable def fIL (fe:FE):FI:=fun st=>(fe st).bind fun x=>(esc x.1 x.2).bind fun y=>(y.1.its).bind fun ds=>some (ds,y.2)
theorem ri_list {te:TE} {fe:FE} (h:RdE K te fe):RdI K (iList K te) (fIL fe):=by
 intro st σ H O Z R E items st' e q;obtain⟨⟨r,st1⟩,e1,e⟩:=Option.bind_eq_some_iff.mp e;obtain⟨⟨d,st2⟩,e2,e⟩:=Option.bind_eq_some_iff.mp e;obtain⟨ds,e3,e⟩:=Option.bind_eq_some_iff.mp e;cases e;refine h st σ H O Z _ E r st1 e1 fun v H1 O1 x1 k1 E1 rv w1=>?_;obtain⟨O2,x2,k2,E2,da⟩:=rv.esc E1 e2;have fin:∀{a:Addr} {vs:List V},El K (U O2 Z) H1 vs items->(∀H' O',Ext O2 H1 O' H'->SqL K H' a vs)->iList K (fun _ H Q=>Q (.ref a) H) σ H1 R:=fun {a vs} el sq=>by
  refine⟨a,rfl,⟨vs,sq H1 O2 (Ext.refl _ _)⟩,q _ H1 O2 (x1.trans x2) (k1.trans k2) E2 fun H' O' ex _=>?_⟩;have g1:=sq H' O' ex;have el':=el.ext ex;have hl:=el.1;refine⟨fun i hi=>⟨vs,g1,by omega⟩,fun i d hd=>?_⟩
  obtain⟨v,hv,hdv⟩:=el'.at hd;refine⟨⟨vs,v,g1,hv⟩,fun x H'' hx=>?_⟩;obtain⟨rfl,hx⟩:=hx;have:=hx vs g1;rw[hv]at this;cases this;exact⟨Same.refl _,hdv⟩
 cases d with
 | lst ds' =>
  cases e3;cases da with
  | @lst a vs _ h0 h1 h2 h3=>exact fin ⟨h2,h3⟩ fun H' O' ex=>.inl (.inl (ex.kp a _ h1 fun z=>h0 (.inl z)))
 | fl ds' =>
  cases e3;cases da with
  | @fl a vs _ h1 h2 h3 =>
   refine fin ⟨h2,h3⟩ fun H' O' ex=>?_;rcases h1 with⟨h1,hn⟩|h1
   ·exact .inl (Rd.keep h1 fun o e=>ex.kp a o e fun z=>hn (.inl z))
   ·exact h1 H'
 | _=>cases e3
noncomputable def fIT (fe:FE):FI:=fun st=>(fe st).bind fun x=>(esc x.1 x.2).bind fun y=>(y.1.itt).bind fun ds=>some (ds,y.2)
theorem ri_tup {te:TE} {fe:FE} (h:RdE K te fe):RdI K (iTup K te) (fIT fe):=by
 intro st σ H O Z R E items st' e q;obtain⟨⟨r,st1⟩,e1,e⟩:=Option.bind_eq_some_iff.mp e;obtain⟨⟨d,st2⟩,e2,e⟩:=Option.bind_eq_some_iff.mp e;obtain⟨ds,e3,e⟩:=Option.bind_eq_some_iff.mp e;cases e;refine h st σ H O Z _ E r st1 e1 fun v H1 O1 x1 k1 E1 rv w1=>?_;obtain⟨O2,x2,k2,E2,da⟩:=rv.esc E1 e2;cases d with
 | tup ds' =>
  cases e3;cases da with
  | @tup a vs _ h1 h2 h3 =>
   refine⟨a,rfl,⟨vs,h1.sq⟩,q _ H1 O2 (x1.trans x2) (k1.trans k2) E2 fun H' O' ex _=>?_⟩;have da':=(DA.tup h1 h2 h3).ext ex;cases da' with
   | @tup _ ws _ g1 g2 g3 =>
    refine⟨fun i hi=>⟨ws,g1.sq,by omega⟩,fun i d hd=>?_⟩
    obtain⟨v,hv,hdv⟩:=El.at ⟨g2,g3⟩ hd;refine⟨⟨ws,v,g1.sq,hv⟩,fun x H'' hx=>?_⟩;obtain⟨rfl,hx⟩:=hx;have:=hx ws g1.sq;rw[hv]at this;cases this;exact⟨Same.refl _,hdv⟩
 | _=>cases e3
noncomputable def rng (lo:Int) (n:Nat):List D:=(List.range n).map fun(i:Nat)=>D.int (lo+(i:Int))
theorem rng_at {lo:Int} {n i:Nat} {d:D} (h:(rng lo n)[i]?=some d):i<n/\d=.int (lo+i):=by
 unfold rng at h;rw[List.getElem?_map]at h;by_cases hi:i<n
 ·rw[List.getElem?_range hi]at h;exact⟨hi,(Option.some.inj h).symm⟩
 ·rw[List.getElem?_eq_none (by simpa using hi)]at h;cases h
theorem rng_len (lo:Int) (n:Nat):(rng lo n).length=n:=by simp[rng]
theorem itok_rng {lo:Int} {n:Nat}:ItOk K Z (Itr lo n) (rng lo n) H O:=fun H' O' ex _=>by
 refine⟨fun i hi=>by rw[rng_len]at hi;exact hi,fun i d hd=>?_⟩
 obtain⟨h1,rfl⟩:=rng_at hd;refine⟨h1,fun x H'' hx=>?_⟩;obtain⟨rfl,rfl⟩:=hx;exact⟨Same.refl _,.int _⟩
noncomputable def oneI:List D->Option Int
 | [.int j]=>some j
 | _=>none
noncomputable def twoI:List D->Option (Int×Int)
 | [.int i,.int j]=>some (i,j)
 | _=>none
noncomputable def fIR1 (fa:FA):FI:=fun st=>(fa st).bind fun x=>(contAll x.2 x.1).bind fun ds=>(oneI ds).bind fun j=>if -(2 ^ 62)<=j/\j<2 ^ 62 then some (rng 0 j.toNat,x.2) else none
theorem ri_rng1 {ta:TA} {fa:FA} (h:RdA K ta fa):RdI K (iRng1 ta) (fIR1 fa):=by
 intro st σ H O Z R E items st' e q;obtain⟨⟨rs,st1⟩,e1,e⟩:=Option.bind_eq_some_iff.mp e;obtain⟨ds,e2,e⟩:=Option.bind_eq_some_iff.mp e;obtain⟨j,e3,e⟩:=Option.bind_eq_some_iff.mp e;by_cases hc:-(2 ^ 62)<=j/\j<2 ^ 62
 ·simp only[if_pos hc]at e;cases e;refine h st σ H O Z _ E rs _ e1 fun vs H1 O1 x1 k1 E1 rvs=>?_;have bs:=rvs.bas E1 e2;have ed:ds=[.int j]:=by
   unfold oneI at e3;split at e3
   ·cases e3;rfl
   ·cases e3
  subst ed;cases bs with
  | cons b1 b2 =>
   cases b2;obtain rfl:=(show _=V.int j from b1);exact⟨j,rfl,hc.1,hc.2,q _ H1 O1 x1 k1 E1 itok_rng⟩
 ·simp only[if_neg hc]at e;cases e
noncomputable def fIR2 (fa:FA):FI:=fun st=>(fa st).bind fun x=>(contAll x.2 x.1).bind fun ds=>(twoI ds).bind fun w=>if -(2 ^ 62)<=w.1/\w.1<2 ^ 62/\-(2 ^ 62)<=w.2/\w.2<2 ^ 62 then some (rng w.1 (w.2-w.1).toNat,x.2) else none
theorem ri_rng2 {ta:TA} {fa:FA} (h:RdA K ta fa):RdI K (iRng2 ta) (fIR2 fa):=by
 intro st σ H O Z R E items st' e q;obtain⟨⟨rs,st1⟩,e1,e⟩:=Option.bind_eq_some_iff.mp e;obtain⟨ds,e2,e⟩:=Option.bind_eq_some_iff.mp e;obtain⟨⟨i,j⟩,e3,e⟩:=Option.bind_eq_some_iff.mp e;by_cases hc:-(2 ^ 62)<=i/\i<2 ^ 62/\-(2 ^ 62)<=j/\j<2 ^ 62
 ·simp only[if_pos hc]at e;cases e;refine h st σ H O Z _ E rs _ e1 fun vs H1 O1 x1 k1 E1 rvs=>?_;have bs:=rvs.bas E1 e2;have ed:ds=[.int i,.int j]:=by
   unfold twoI at e3;split at e3
   ·cases e3;rfl
   ·cases e3
  subst ed;cases bs with
  | cons b1 b2 =>
   cases b2 with
   | cons b2 b3 =>
    cases b3;obtain rfl:=(show _=V.int i from b1);obtain rfl:=(show _=V.int j from b2);exact⟨i,j,rfl,hc,q _ H1 O1 x1 k1 E1 itok_rng⟩
 ·simp only[if_neg hc]at e;cases e
noncomputable def sgnD (x:Str):List D:=x.cps.toList.map fun c=>D.str ⟨#[c]⟩
noncomputable def fIS (fe:FE):FI:=fun st=>(fe st).bind fun x=>match cont x.2 x.1 with
 | some (.str z)=>some (sgnD z,x.2)
 | _=>none
theorem ri_str {te:TE} {fe:FE} (h:RdE K te fe):RdI K (iStr te) (fIS fe):=by
 intro st σ H O Z R E items st' e q;obtain⟨⟨r,st1⟩,e1,e⟩:=Option.bind_eq_some_iff.mp e;refine h st σ H O Z _ E r st1 e1 fun v H1 O1 x1 k1 E1 rv w1=>?_;dsimp only at e;split at e
 ·rename_i z ez
  cases e;have ev:v=.str z:=rv.ba E1 ez;refine⟨z,ev,q _ H1 O1 x1 k1 E1 fun H' O' ex _=>⟨fun i hi=>?_,fun i d hd=>?_⟩⟩
  ·show z.cps.size<=i;simpa[sgnD]using hi
  ·unfold sgnD at hd;rw[List.getElem?_map]at hd;obtain⟨c,hc,rfl⟩:=Option.map_eq_some_iff.mp hd;have hc':z.cps[i]?=some c:=by simpa using hc
   refine⟨(Array.getElem?_eq_some_iff.mp hc').1,fun x H'' hx=>?_⟩;obtain⟨rfl,c',h1,rfl⟩:=hx;rw[hc']at h1;cases h1;exact⟨Same.refl _,.str _⟩
 ·cases e
inductive Ot where
 | nx (st:En)|rt (r:Rs) (st:En)|bk (st:En)|ct (st:En)
noncomputable abbrev FS:=En->Option Ot
noncomputable def Out (K:PySem.W.Frag) (Z O:AS) (H:Hp) (st:En) (σ:St) (Dn:Ends):Ot->Prop
 | .nx st'=>∀σ' H' O',Ext O H O' H'->Kq st σ st' σ'->ER K st' σ' H' O' Z->Dn.nx σ' H'
 | .rt r st'=>∀v σ' H' O',Ext O H O' H'->Kq st σ st' σ'->ER K st' σ' H' O' Z->RVal K Z st' σ' H' O' v r->Fsh H v r->Dn.rt v H'
 | .bk st'=>∀σ' H' O',Ext O H O' H'->Kq st σ st' σ'->ER K st' σ' H' O' Z->Dn.bk σ' H'
 | .ct st'=>∀σ' H' O',Ext O H O' H'->Kq st σ st' σ'->ER K st' σ' H' O' Z->Dn.ct σ' H'
noncomputable def RdS (K:PySem.W.Frag) (ts:TS) (F:FS):Prop:=∀(st:En) (σ:St) (H:Hp) (O Z:AS) (Dn:Ends),ER K st σ H O Z->∀o,F st=some o->Out K Z O H st σ Dn o->ts Dn σ H
theorem Out.trans {Dn:Ends} {o:Ot} (h:Out K Z O H st σ Dn o) (x:Ext O H O1 H1) (k:Kq st σ st1 σ'):Out K Z O1 H1 st1 σ' Dn o:=by
 cases o with
 | nx s=>exact fun σ2 H2 O2 x2 k2 E2=>h σ2 H2 O2 (x.trans x2) (k.trans k2) E2
 | bk s=>exact fun σ2 H2 O2 x2 k2 E2=>h σ2 H2 O2 (x.trans x2) (k.trans k2) E2
 | ct s=>exact fun σ2 H2 O2 x2 k2 E2=>h σ2 H2 O2 (x.trans x2) (k.trans k2) E2
 | rt r s=>exact fun v σ2 H2 O2 x2 k2 E2 rv w=>h v σ2 H2 O2 (x.trans x2) (k.trans k2) E2 rv (w.back x)
noncomputable def sNext:FS:=fun st=>some (.nx st)
theorem rs_next:RdS K tNext sNext:=by
 intro st σ H O Z Dn E o e q;cases e;exact q σ H O (Ext.refl _ _) (Kq.refl _ _) E
noncomputable def sSeq (F G:FS):FS:=fun st=>(F st).bind fun o=>match o with
 | .nx s=>G s
 | o=>some o
theorem rD {t u:TS} {F G:FS} (h1:RdS K t F) (h2:RdS K u G):RdS K (tSeq t u) (sSeq F G):=by
 intro st σ H O Z Dn E o e q;obtain⟨o1,e1,e⟩:=Option.bind_eq_some_iff.mp e;refine h1 st σ H O Z _ E o1 e1 ?_;cases o1 with
 | nx s=>exact fun σ1 H1 O1 x1 k1 E1=>h2 s σ1 H1 O1 Z Dn E1 o e (q.trans x1 k1)
 | bk s=>cases e;exact q
 | ct s=>cases e;exact q
 | rt r s=>cases e;exact q
noncomputable def sDrop (fe:FE):FS:=fun st=>(fe st).bind fun x=>some (.nx x.2)
theorem rs_drop {te:TE} {fe:FE} (h:RdE K te fe):RdS K (tDrop te) (sDrop fe):=by
 intro st σ H O Z Dn E o e q;obtain⟨⟨r,st1⟩,e1,e⟩:=Option.bind_eq_some_iff.mp e;cases e;exact h st σ H O Z _ E r st1 e1 fun v H1 O1 x1 k1 E1 rv w1=>q σ H1 O1 x1 k1.kq E1
noncomputable def sRet (fe:FE):FS:=fun st=>(fe st).bind fun x=>some (.rt x.1 x.2)
theorem rs_ret {te:TE} {fe:FE} (h:RdE K te fe):RdS K (tRet te) (sRet fe):=by
 intro st σ H O Z Dn E o e q;obtain⟨⟨r,st1⟩,e1,e⟩:=Option.bind_eq_some_iff.mp e;cases e;exact h st σ H O Z _ E r st1 e1 fun v H1 O1 x1 k1 E1 rv w1=>q v σ H1 O1 x1 k1.kq E1 rv w1
noncomputable def sIf (f:FT) (F G:FS):FS:=fun st=>(f st).bind fun x=>if x.1=true then F x.2 else G x.2
theorem rs_if {c:TT} {f:FT} {t u:TS} {F G:FS} (hc:RdT K c f) (h1:RdS K t F) (h2:RdS K u G):RdS K (tIfS c t u) (sIf f F G):=by
 intro st σ H O Z Dn E o e q;obtain⟨⟨b,st1⟩,e1,e⟩:=Option.bind_eq_some_iff.mp e;refine hc st σ H O Z _ E b st1 e1 fun H1 O1 x1 k1 E1=>?_;cases b with
 | true =>
  rw[if_pos rfl]at e ⊢;exact h1 st1 σ H1 O1 Z Dn E1 o e (q.trans x1 k1.kq)
 | false =>
  simp only[Bool.false_eq_true,if_false]at e ⊢;exact h2 st1 σ H1 O1 Z Dn E1 o e (q.trans x1 k1.kq)
noncomputable def sSet (fe:FE) (i:Nat):FS:=fun st=>(fe st).bind fun x=>match x.1 with
 | .d y=>(fPut i (.v y) x.2).bind fun s=>some (.nx s)
 | .f y=>(fPut i (.o y) x.2).bind fun s=>some (.nx s)
 | .s j=>(esc (.s j) x.2).bind fun y=>(fPut i (.v y.1) y.2).bind fun s=>some (.nx s)
theorem rH {te:TE} {fe:FE} {i:Nat} (h:RdE K te fe):RdS K (tAsg te (gName i)) (sSet fe i):=by
 intro st σ H O Z Dn E o e q;obtain⟨⟨r,st1⟩,e1,e⟩:=Option.bind_eq_some_iff.mp e;refine h st σ H O Z _ E r st1 e1 fun v H1 O1 x1 k1 E1 rv w1=>?_;show Dn.nx (σ.set i (some v)) H1;cases r with
 | d y =>
  obtain⟨s,e2,e⟩:=Option.bind_eq_some_iff.mp e;cases e;obtain⟨t,f1,f2,rfl⟩:=fPut_is e2;exact q _ H1 O1 x1 (k1.kq.trans (kq_put f1 f2)) (E1.asg f1 rv)
 | f y =>
  obtain⟨s,e2,e⟩:=Option.bind_eq_some_iff.mp e;cases e;obtain⟨t,f1,f2,rfl⟩:=fPut_is e2;obtain⟨p,rfl,np,nz,ho,E2⟩:=rv;have hp:H p=none:=w1 p rfl;exact q _ H1 (ins p O1) ⟨x1.kp,fun b z=>z.elim (fun y=>by rw[y];exact .inr hp) (x1.nw b),x1.al,x1.lv⟩ (k1.kq.trans (kq_put f1 f2)) (E1.asgF E2 np f1 ho)
 | s j =>
  obtain⟨⟨d,st2⟩,e2,e⟩:=Option.bind_eq_some_iff.mp e;obtain⟨s,e3,e⟩:=Option.bind_eq_some_iff.mp e;cases e;obtain⟨O2,x2,k2,E2,da⟩:=rv.esc E1 e2;obtain⟨t,f1,f2,rfl⟩:=fPut_is e3;exact q _ H1 O2 (x1.trans x2) ((k1.kq.trans k2.kq).trans (kq_put f1 f2)) (E2.asg f1 da)
end
end VF
namespace VF
open PySem L2
section
variable {K:PySem.W.Frag} {Y Y' O O' O1 O2 Z:AS} {H H' H1 H2:Hp} {v:V} {d:D} {vs:List V} {ds:List D} {a p:Addr} {st st' st1 st2:En} {σ σ':St}
noncomputable def sForL (fg:FG) (B:FS):List D->FS
 | [],st=>some (.nx st)
 | x::r,st=>(fg x st).bind fun s1=>(B s1).bind fun o=>match o with
  | .nx s2=>sForL fg B r s2
  | .ct s2=>sForL fg B r s2
  | .bk s2=>some (.nx s2)
  | .rt y s2=>some (.rt y s2)
noncomputable def sFor (fi:FI) (fg:FG) (B:FS):FS:=fun st=>(fi st).bind fun x=>sForL fg B x.1 x.2
theorem rs_for {wi:TI} {fi:FI} {g:TG} {fg:FG} {tg:List Nat} {tb:TS} {B:FS} (hi:RdI K wi fi) (hg:RdG K g fg tg) (hb:RdS K tb B):RdS K (tFor wi g tb) (sFor fi fg B):=by
 intro st σ H O Z Dn E o e q;obtain⟨⟨items,st1⟩,e1,e⟩:=Option.bind_eq_some_iff.mp e;refine hi st σ H O Z _ E items st1 e1 fun J H1 O1 x1 k1 E1 it=>?_;have q1:=q.trans x1 (k1.kq (σ:=σ));refine⟨fun i m σ' H'=>m=items.length-i/\i<=items.length/\∃s O',Ext O1 H1 O' H'/\Kq st1 σ s σ'/\ER K s σ' H' O' Z/\sForL fg B (items.drop i) s=some o,⟨items.length,by simp,Nat.zero_le _,st1,O1,Ext.refl _ _,Kq.refl _ _,E1,e⟩,?_⟩
 rintro i m σ' H' ⟨rfl,hle,s,O',x2,k2,E2,e2⟩;obtain⟨stop,go⟩:=it H' O' x2 E2.liv;by_cases hlt:i<items.length
 ·right;have hd:items.drop i=items[i]::items.drop (i+1):=List.drop_eq_getElem_cons hlt;rw[hd]at e2;obtain⟨s1,e3,e2⟩:=Option.bind_eq_some_iff.mp e2;obtain⟨o1,e4,e2⟩:=Option.bind_eq_some_iff.mp e2;obtain⟨g1,g2⟩:=go i _ (List.getElem?_eq_getElem hlt);refine⟨g1,fun σ3 H3=>∃s O3,Ext O1 H1 O3 H3/\Kq st1 σ s σ3/\ER K s σ3 H3 O3 Z/\sForL fg B (items.drop (i+1)) s=some o,fun σ3 H3 ⟨s3,O3,x3,k3,E3,e3'⟩=>⟨items.length-(i+1),by omega,rfl,hlt,s3,O3,x3,k3,E3,e3'⟩,fun x H'' hy=>?_⟩
  obtain⟨sm,da⟩:=g2 x H'' hy;have xm:Ext O' H' O' H'':=Same.ext sm;refine hg s σ' H'' O' Z x _ _ (E2.same sm) da s1 e3 fun σ4 _ k4 E4=>?_;refine hb s1 σ4 H'' O' Z _ E4 o1 e4 ?_;have xx:=x2.trans xm;cases o1 with
  | nx s2=>exact fun σ5 H5 O5 x5 k5 E5=>⟨s2,O5,xx.trans x5,(k2.trans k4).trans k5,E5,e2⟩
  | ct s2=>exact fun σ5 H5 O5 x5 k5 E5=>⟨s2,O5,xx.trans x5,(k2.trans k4).trans k5,E5,e2⟩
  | bk s2 =>
   cases e2;exact fun σ5 H5 O5 x5 k5 E5=>q1 σ5 H5 O5 (xx.trans x5) ((k2.trans k4).trans k5) E5
  | rt y s2 =>
   cases e2;exact fun v σ5 H5 O5 x5 k5 E5 rv w=>q1 v σ5 H5 O5 (xx.trans x5) ((k2.trans k4).trans k5) E5 rv (w.back xx)
 ·left;have hn:items.drop i=[]:=List.drop_eq_nil_of_le (by omega)
  rw[hn]at e2;cases e2;exact⟨stop i (by omega),q1 σ' H' O' x2 k2 E2⟩
structure RdM (K:PySem.W.Frag) (T:String) (r:V->List V->Hp->VK->Prop) (ok:D->Bool) (m:D->List D->Option (D×D)):Prop where
 ty:∀(Y:AS) (H:Hp) (p:Addr) (x:D),OA K Y H p x->ok x=true->tyV K T (.ref p) H
 run:∀(Y:AS) (H:Hp) (p:Addr) (x:D) (vs:List V) (ds:List D) (y x':D) (Q:VK),Y p->OA K Y H p x->El K Y H vs ds->m x ds=some (y,x') ->
  (∀v o,DA K Y (upd H p o) v y->OA K Y (upd H p o) p x'->Q v (upd H p o))->r (.ref p) vs H Q
noncomputable def fM (ok:D->Bool) (m:D->List D->Option (D×D)) (i:Nat) (fa:FA):FE:=fun st=>(st[i]?).bind fun s0=>(s0.ow).bind fun x0=>if ok x0=true then(fa st).bind fun x=>(escAll x.1 x.2).bind fun y=>(y.2[i]?).bind fun s=>(s.ow).bind fun d=>(m d y.1).bind fun z=>some (.d z.1,y.2.set i (s.put z.2)) else none
theorem rd_m {T:String} {r:V->List V->Hp->VK->Prop} {ok:D->Bool} {m:D->List D->Option (D×D)} {i:Nat} {ta:TA} {fa:FA} (hm:RdM K T r ok m) (ha:RdA K ta fa):RdE K (tBM K T r (tVar i) ta) (fM ok m i fa):=by
 intro st σ H O Z Q E r0 st' h q;obtain⟨s0,f1,h⟩:=Option.bind_eq_some_iff.mp h;obtain⟨x0,f2,h⟩:=Option.bind_eq_some_iff.mp h;by_cases hok:ok x0=true
 ·simp only[if_pos hok]at h;obtain⟨⟨rs,st1⟩,e1,h⟩:=Option.bind_eq_some_iff.mp h;obtain⟨⟨ds,st2⟩,e2,h⟩:=Option.bind_eq_some_iff.mp h;obtain⟨s,e3,h⟩:=Option.bind_eq_some_iff.mp h;obtain⟨x,e4,h⟩:=Option.bind_eq_some_iff.mp h;obtain⟨⟨y,x'⟩,e5,h⟩:=Option.bind_eq_some_iff.mp h;cases h;obtain⟨p,g1,g2,g3⟩:=E.own i s0 x0 f1 f2;refine⟨.ref p,g1,hm.ty _ _ _ _ g3 hok,?_⟩;refine ha st σ H O Z _ E rs st1 e1 fun vs H1 O1 x1 k1 E1 rvs=>?_;obtain⟨O2,x2,k2,E2,el⟩:=rvs.esc E1 e2;obtain⟨p',j1,j2,j3⟩:=E2.own i s x e3 e4;have ep:p'=p:=by rw[g1]at j1;cases j1;rfl
  subst ep;refine hm.run (U O2 Z) H1 p' x vs ds y x' _ (.inl j2) j3 el e5 fun v o da ho=>?_;obtain⟨E3,x3,k3⟩:=E2.write e3 e4 g1 ho;exact q v _ O2 ((x1.trans x2).trans x3) ((k1.trans k2).trans k3) E3 da True.intro
 ·simp only[if_neg hok]at h;cases h
noncomputable def RdSet (K:PySem.W.Frag) (t:TSet) (m:D->D->D->Option D):Prop:=∀(Y:AS) (H:Hp) (p:Addr) (x:D) (k v:V) (dk dv x':D) (Q:Hp->Prop),Y p->OA K Y H p x->BA K Y H k dk->DA K Y H v dv->m x dk dv=some x' ->
 (∀o,OA K Y (upd H p o) p x'->Q (upd H p o))->t (.ref p) k v H Q
noncomputable def sPut (m:D->D->D->Option D) (fe:FE) (i:Nat) (fi:FE):FS:=fun st=>(fe st).bind fun x=>(esc x.1 x.2).bind fun y=>(y.2[i]?).bind fun s0=>(s0.ow).bind fun _=>(fi y.2).bind fun w=>(cont w.2 w.1).bind fun dk=>(w.2[i]?).bind fun s=>(s.ow).bind fun z=>(m z dk y.1).bind fun z'=>some (.nx (w.2.set i (s.put z')))
theorem rs_put {t:TSet} {m:D->D->D->Option D} {te ti:TE} {fe fi:FE} {i:Nat} (hm:RdSet K t m) (he:RdE K te fe) (hi:RdE K ti fi):RdS K (tAsg te (gSub (tVar i) ti t)) (sPut m fe i fi):=by
 intro st σ H O Z Dn E o e q;obtain⟨⟨r,st1⟩,e1,e⟩:=Option.bind_eq_some_iff.mp e;obtain⟨⟨dv,st2⟩,e2,e⟩:=Option.bind_eq_some_iff.mp e;obtain⟨s0,e3,e⟩:=Option.bind_eq_some_iff.mp e;obtain⟨x0,e4,e⟩:=Option.bind_eq_some_iff.mp e;obtain⟨⟨rk,st3⟩,e5,e⟩:=Option.bind_eq_some_iff.mp e;obtain⟨dk,e6,e⟩:=Option.bind_eq_some_iff.mp e;obtain⟨s,e7,e⟩:=Option.bind_eq_some_iff.mp e;obtain⟨x,e8,e⟩:=Option.bind_eq_some_iff.mp e;obtain⟨x',e9,e⟩:=Option.bind_eq_some_iff.mp e;cases e;refine he st σ H O Z _ E r st1 e1 fun v H1 O1 x1 k1 E1 rv w1=>?_;obtain⟨O2,x2,k2,E2,da⟩:=rv.esc E1 e2;obtain⟨p,g1,g2,g3⟩:=E2.own i s0 x0 e3 e4;refine⟨.ref p,g1,?_⟩;refine hi st2 σ H1 O2 Z _ E2 rk st3 e5 fun k H3 O3 x3 k3 E3 rk' w3=>?_;obtain⟨p',j1,j2,j3⟩:=E3.own i s x e7 e8;have ep:p'=p:=by rw[g1]at j1;cases j1;rfl
 subst ep;refine hm (U O3 Z) H3 p' x k v dk dv x' _ (.inl j2) j3 (rk'.ba E3 e6) (da.ext x3) e9 fun o ho=>?_;obtain⟨E4,x4,k4⟩:=E3.write e7 e8 g1 ho;exact q σ _ O3 (((x1.trans x2).trans x3).trans x4) (((k1.trans k2).trans k3).trans k4).kq E4
noncomputable def blkE (k:Nat) (caps:List Nat) (st:En):En:=List.replicate k Sl.e++caps.map fun i=>(st[i]?).getD .e
noncomputable def rst (k:Nat) (s:En):En:=List.replicate k Sl.e++s.drop k
noncomputable def wb:List Nat->En->En->En
 | i::r,s::sb,st=>wb r sb (st.set i s)
 | _,_,st=>st
noncomputable def compL (fg:FG) (fc:FT) (fe:FE) (k:Nat):List D->En->Option (List D×En)
 | [],sb=>some ([],sb)
 | x::r,sb=>(fg x sb).bind fun s1=>(fc s1).bind fun c=>if c.1=true then(fe c.2).bind fun y=>(esc y.1 y.2).bind fun w=>(compL fg fc fe k r (rst k w.2)).bind fun z=>some (w.1::z.1,z.2)
  else compL fg fc fe k r (rst k c.2)
noncomputable def capsOk (caps:List Nat) (n:Nat):Bool:=decide caps.Nodup&&caps.all fun i=>decide (i<n)
noncomputable def fComp (k:Nat) (caps:List Nat) (fi:FI) (fg:FG) (fc:FT) (fe:FE):FE:=fun st=>(fi st).bind fun x=>if (capsOk caps x.2.length&&decide (x.1.length<=1000000))=true then(compL fg fc fe k x.1 (blkE k caps x.2)).bind fun y=>some (.f (.lst y.1),wb caps (y.2.drop k) x.2) else none
theorem wb_len:∀(caps:List Nat) (sb st:En),(wb caps sb st).length=st.length
 | [],_,_=>by simp[wb]
 | _::_,[],_=>by simp[wb]
 | i::r,s::sb,st=>by rw[wb,wb_len r sb];simp
theorem wb_out:∀(caps:List Nat) (sb st:En) {i:Nat},i∉caps->(wb caps sb st)[i]?=st[i]?
 | [],_,_,_,_=>by simp[wb]
 | _::_,[],_,_,_=>by simp[wb]
 | j::r,s::sb,st,i,h=>by
  rw[wb,wb_out r sb _ (fun z=>h (List.mem_cons_of_mem _ z))];exact pK fun z=>h (by rw[z];simp)
theorem wb_at:∀(caps:List Nat) (sb st:En) {j i:Nat},caps.Nodup->sb.length=caps.length->caps[j]?=some i->i<st.length->(wb caps sb st)[i]?=sb[j]?
 | [],_,_,_,_,_,_,h,_=>by simp at h
 | _::_,[],_,_,_,_,h,_,_=>by simp at h
 | c::r,s::sb,st,0,i,nd,hl,h,hi=>by
  have e:c=i:=by simpa using h
  subst e;rw[wb,wb_out r sb _ (List.nodup_cons.mp nd).1];rw[List.getElem?_set,if_pos rfl,if_pos hi];rfl
 | c::r,s::sb,st,j+1,i,nd,hl,h,hi=>by
  rw[wb,wb_at r sb _ (j:=j) (List.nodup_cons.mp nd).2 (by simpa using hl) (by simpa using h) (by simpa using hi)];rfl
theorem blkE_at {k:Nat} {caps:List Nat} {j i:Nat} (h:caps[j]?=some i):(blkE k caps st)[k+j]?=some ((st[i]?).getD .e):=by
 unfold blkE;rw[List.getElem?_append_right (by simp),List.length_replicate,Nat.add_sub_cancel_left,List.getElem?_map,h];rfl
theorem blkE_get {k:Nat} {caps:List Nat} {i:Nat} {s:Sl} (h:(blkE k caps st)[i]?=some s) (n:s.get≠none):∃j i',i=k+j/\caps[j]?=some i'/\st[i']?=some s:=by
 unfold blkE at h;by_cases hi:i<k
 ·rw[List.getElem?_append_left (by simpa using hi),List.getElem?_replicate,if_pos hi]at h
  cases h;exact absurd rfl n
 ·rw[List.getElem?_append_right (by simpa using hi),List.length_replicate,List.getElem?_map]at h
  refine⟨i-k,?_⟩;obtain⟨i',e1,e2⟩:=Option.map_eq_some_iff.mp h;refine⟨i',by omega,e1,?_⟩
  cases q:st[i']? with
  | none=>rw[q]at e2;subst e2;exact absurd rfl n
  | some t=>rw[q]at e2;subst e2;rfl
theorem blk_at {k:Nat} {caps:List Nat} {j i:Nat} (h:caps[j]?=some i):(blk k caps σ)[k+j]?=some ((σ[i]?).getD none):=by
 unfold blk;rw[List.getElem?_append_right (by simp),List.length_replicate,Nat.add_sub_cancel_left,List.getElem?_map,h];rfl
theorem ow_get {s:Sl} {d:D} (h:s.ow=some d):s.get≠none:=by cases s<;>first|(cases h;done)|simp[Sl.get]
theorem nodup_at {l:List Nat} {j j' i:Nat} (nd:l.Nodup) (h:l[j]?=some i) (h':l[j']?=some i):j=j':=by
 obtain⟨h1,h2⟩:=List.getElem?_eq_some_iff.mp h;obtain⟨h3,h4⟩:=List.getElem?_eq_some_iff.mp h';exact(List.getElem_inj nd).mp (h2.trans h4.symm)
noncomputable def Ob (caps:List Nat) (st:En) (σ:St):AS:=fun p=>∃i∈caps,∃s d,st[i]?=some s/\s.ow=some d/\σ[i]?=some (some (.ref p))
noncomputable def Zb (caps:List Nat) (st:En) (σ:St) (O Z:AS):AS:=fun p=>Z p∨(O p/\¬ Ob caps st σ p)
theorem Ob.o {caps:List Nat} (E:ER K st σ H O Z) {q:Addr} (h:Ob caps st σ q):O q:=by
 obtain⟨i,_,s,d,h1,h2,h3⟩:=h;obtain⟨p,g1,g2,_⟩:=E.own i s d h1 h2;rw[h3]at g1;cases g1;exact g2
theorem blk_er {k:Nat} {caps:List Nat} (E:ER K st σ H O Z) (nd:caps.Nodup):ER K (blkE k caps st) (blk k caps σ) H (Ob caps st σ) (Zb caps st σ O Z):=by
 have up:∀b,U (Ob caps st σ) (Zb caps st σ O Z) b->U O Z b:=fun b z=>z.elim (fun y=>.inl (Ob.o E y)) fun y=>y.elim .inr fun w=>.inl w.1;refine⟨by simp[blkE,blk],fun i d h=>?_,fun i s d h1 h2=>?_,fun i j s t d d' p h1 h2 h3 h4 h5 h6=>?_,fun p h z=>?_,fun p h=>E.liv p (up p h)⟩
 ·obtain⟨j,i',rfl,hc,hs⟩:=blkE_get h (by simp[Sl.get])
  obtain⟨v,g1,g2⟩:=E.val i' d hs;exact⟨v,by rw[blk_at hc,g1];rfl,g2.less up⟩
 ·obtain⟨j,i',rfl,hc,hs⟩:=blkE_get h1 (ow_get h2);obtain⟨p,g1,g2,g3⟩:=E.own i' s d hs h2;exact⟨p,by rw[blk_at hc,g1];rfl,⟨i',List.mem_of_getElem? hc,s,d,hs,h2,g1⟩,g3.go rfl (fun _ _ e _=>e) fun b z=>.inl (up b z)⟩
 ·obtain⟨j1,i1,rfl,c1,s1⟩:=blkE_get h1 (ow_get h2);obtain⟨j2,i2,rfl,c2,s2⟩:=blkE_get h3 (ow_get h4);obtain⟨p1,g1,_⟩:=E.own i1 s d s1 h2;obtain⟨p2,g2,_⟩:=E.own i2 t d' s2 h4;rw[blk_at c1,g1]at h5;rw[blk_at c2,g2]at h6;have e1:p1=p:=by simpa using h5
  have e2:p2=p:=by simpa using h6
  subst e1;subst e2;have e:=E.uni i1 i2 s t d d' _ s1 h2 s2 h4 g1 g2;subst e;rw[nodup_at nd c1 c2]
 ·rcases z with z|z
  ·exact E.dis p (Ob.o E h) z
  ·exact z.2 h
theorem rst_er {k:Nat} {τ τ':St} (E:ER K st τ H O Z) (hl:τ'.length=τ.length) (hk:k<=st.length) (h:∀j,k<=j->τ'[j]?=τ[j]?):ER K (rst k st) τ' H O Z:=by
 have at_:∀(i:Nat) s,(rst k st)[i]?=some s->s.get≠none->k<=i/\st[i]?=some s:=fun i s e n=>by
  unfold rst at e;by_cases hi:i<k
  ·rw[List.getElem?_append_left (by simpa using hi),List.getElem?_replicate,if_pos hi]at e
   cases e;exact absurd rfl n
  ·rw[List.getElem?_append_right (by simpa using hi),List.length_replicate,List.getElem?_drop]at e
   have:k+(i-k)=i:=by omega
   rw[this]at e;exact⟨by omega,e⟩
 refine⟨?_,fun i d e=>?_,fun i s d e1 e2=>?_,fun i j s t d d' p e1 e2 e3 e4 e5 e6=>?_,E.dis,E.liv⟩
 ·rw[hl,← E.len];simp[rst];omega
 ·obtain⟨hk,e⟩:=at_ i _ e (by simp[Sl.get])
  obtain⟨v,g1,g2⟩:=E.val i d e;exact⟨v,by rw[h i hk];exact g1,g2⟩
 ·obtain⟨hk,e⟩:=at_ i _ e1 (ow_get e2);obtain⟨p,g1,g2⟩:=E.own i s d e e2;exact⟨p,by rw[h i hk];exact g1,g2⟩
 ·obtain⟨hk1,e1⟩:=at_ i _ e1 (ow_get e2);obtain⟨hk2,e3⟩:=at_ j _ e3 (ow_get e4);rw[h i hk1]at e5;rw[h j hk2]at e6;exact E.uni i j s t d d' p e1 e2 e3 e4 e5 e6
noncomputable def Oo (caps:List Nat) (st:En) (σ:St) (O Oi:AS):AS:=fun p=>Oi p∨(O p/\¬ Ob caps st σ p)
theorem oo_ext {caps:List Nat} {Oi:AS} (E:ER K st σ H O Z) (x:Ext (Ob caps st σ) H Oi H'):Ext O H (Oo caps st σ O Oi) H' :=
 ⟨fun b o e n=>x.kp b o e fun z=>n (Ob.o E z),fun b z=>z.elim (fun y=>(x.nw b y).elim (fun w=>.inl (Ob.o E w)) .inr) fun y=>.inl y.1,x.al,x.lv⟩
theorem wb_er {k:Nat} {caps:List Nat} {Oi:AS} {sb:En} (E:ER K st σ H O Z) (nd:caps.Nodup) (lt:∀i∈caps,i<st.length) (hl:sb.length=k+caps.length) (x:Ext (Ob caps st σ) H Oi H') (B:ER K sb (blk k caps σ) H' Oi (Zb caps st σ O Z)) :
  ER K (wb caps (sb.drop k) st) σ H' (Oo caps st σ O Oi) Z:=by
 have dl:(sb.drop k).length=caps.length:=by rw[List.length_drop];omega
 have cap:∀(j i:Nat),caps[j]?=some i->(wb caps (sb.drop k) st)[i]?=sb[k+j]?:=fun j i h=>by
  rw[wb_at caps _ st nd dl h (lt i (List.mem_of_getElem? h)),List.getElem?_drop]
 have out:∀i,i∉caps->(wb caps (sb.drop k) st)[i]?=st[i]?:=fun i h=>wb_out caps _ st h;have same:∀b,U (Oo caps st σ O Oi) Z b->U Oi (Zb caps st σ O Z) b:=fun b z=>by
  rcases z with(z|z)|z
  ·exact .inl z
  ·exact .inr (.inr z)
  ·exact .inr (.inl z)
 have kp:∀b o,H b=some o->¬ U O Z b->H' b=some o:=fun b o e n=>x.kp b o e fun z=>n (.inl (Ob.o E z));have nn:∀b,U (Oo caps st σ O Oi) Z b->U O Z b∨H b=none:=fun b z=>by
  rcases z with z|z
  ·exact((oo_ext E x).nw b z).elim (fun y=>.inl (.inl y)) .inr
  ·exact .inl (.inr z)
 have nob:∀(i:Nat) s d p,i∉caps->st[i]?=some s->s.ow=some d->σ[i]?=some (some (.ref p))->¬ Ob caps st σ p:=fun i s d p hn h1 h2 h3 z=>by
  obtain⟨i0,hm,s0,d0,g1,g2,g3⟩:=z;have:=E.uni i i0 s s0 d d0 p h1 h2 g1 g2 h3 g3;subst this;exact hn hm
 have bget:∀{j i:Nat} {v:V},caps[j]?=some i->(blk k caps σ)[k+j]?=some (some v)->σ[i]?=some (some v):=fun {j i v} hc hb=>by
  rw[blk_at hc]at hb;have hb':=Option.some.inj hb;cases q:σ[i]? with
  | none=>rw[q]at hb';cases hb'
  | some w=>rw[q]at hb';have:w=some v:=hb';rw[this]
 have own:∀(i:Nat) s d,(wb caps (sb.drop k) st)[i]?=some s->s.ow=some d->(∃j,caps[j]?=some i/\sb[k+j]?=some s)∨(i∉caps/\st[i]?=some s):=fun i s d h1 _=>by
  by_cases hc:i∈caps
  ·obtain⟨j,hj⟩:=List.getElem?_of_mem hc;rw[cap j i hj]at h1;exact .inl ⟨j,hj,h1⟩
  ·rw[out i hc]at h1;exact .inr ⟨hc,h1⟩
 refine⟨by rw[wb_len];exact E.len,fun i d h=>?_,fun i s d h1 h2=>?_,fun i j s t d d' p h1 h2 h3 h4 h5 h6=>?_,fun p h=>?_,fun p h=>?_⟩
 ·by_cases hc:i∈caps
  ·obtain⟨j,hj⟩:=List.getElem?_of_mem hc;rw[cap j i hj]at h;obtain⟨v,g1,g2⟩:=B.val _ d h;exact⟨v,bget hj g1,g2.less same⟩
  ·rw[out i hc]at h;obtain⟨v,g1,g2⟩:=E.val i d h;exact⟨v,g1,g2.go kp nn⟩
 ·rcases own i s d h1 h2 with⟨j,hj,hs⟩|⟨hc,hs⟩
  ·obtain⟨p,g1,g2,g3⟩:=B.own _ s d hs h2;exact⟨p,bget hj g1,.inl g2,g3.go rfl (fun _ _ e _=>e) fun b z=>.inl (same b z)⟩
  ·obtain⟨p,g1,g2,g3⟩:=E.own i s d hs h2;have nb:=nob i s d p hc hs h2 g1;refine⟨p,g1,.inr ⟨g2,nb⟩,g3.go ?_ kp nn⟩;cases q:H p with
   | none=>exact absurd q g3.live
   | some o=>exact x.kp p o q nb
 ·rcases own i s d h1 h2 with⟨j1,c1,s1⟩|⟨c1,s1⟩<;>rcases own j t d' h3 h4 with⟨j2,c2,s2⟩|⟨c2,s2⟩
  ·have e:=B.uni _ _ s t d d' p s1 h2 s2 h4 (by rw[blk_at c1,h5];rfl) (by rw[blk_at c2,h6];rfl)
   have e':j1=j2:=by omega
   subst e';rw[c1]at c2;exact Option.some.inj c2
  ·exfalso
   obtain⟨q,g1,g2,_⟩:=B.own _ s d s1 h2;have:=bget c1 g1;rw[h5]at this;cases this;have nb:=nob j t d' p c2 s2 h4 h6;obtain⟨q2,k1,_,k3⟩:=E.own j t d' s2 h4;rw[h6]at k1;cases k1;exact(x.nw p g2).elim nb k3.live
  ·exfalso
   obtain⟨q,g1,g2,_⟩:=B.own _ t d' s2 h4;have:=bget c2 g1;rw[h6]at this;cases this;have nb:=nob i s d p c1 s1 h2 h5;obtain⟨q2,k1,_,k3⟩:=E.own i s d s1 h2;rw[h5]at k1;cases k1;exact(x.nw p g2).elim nb k3.live
  ·exact E.uni i j s t d d' p s1 h2 s2 h4 h5 h6
 ·rcases h with h|h
  ·exact fun z=>B.dis p h (.inl z)
  ·exact E.dis p h.1
 ·rcases h with(h|h)|h
  ·exact B.liv p (.inl h)
  ·exact x.lv p (E.liv p (.inl h.1))
  ·exact x.lv p (E.liv p (.inr h))
theorem rst_kp {k:Nat} {a b:En} (h0:∀(i:Nat) s,a[i]?=some s->i<k->s=.e) (h:Kp a b) (hk:k<=b.length):Kp a (rst k b):=by
 have lk:(rst k b).length=b.length:=by simp[rst];omega
 have at_:∀i,k<=i->(rst k b)[i]?=b[i]?:=fun i hi=>by
  unfold rst;rw[List.getElem?_append_right (by simpa using hi),List.length_replicate,List.getElem?_drop]
  congr 1;omega
 refine⟨lk.trans h.len,fun i s e g=>?_,fun i d e=>?_⟩
 ·by_cases hi:i<k
  ·have:=h0 i s e hi;subst this;exact absurd rfl g
  ·obtain⟨s',e',g'⟩:=h.has i s e g;exact⟨s',by rw[at_ i (by omega)];exact e',g'⟩
 ·by_cases hi:i<k
  ·have:=h0 i _ e hi;cases this
  ·obtain⟨d',e'⟩:=h.io i d e;exact⟨d',by rw[at_ i (by omega)];exact e'⟩
theorem wb_kp {k:Nat} {caps:List Nat} {sb:En} (nd:caps.Nodup) (lt:∀i∈caps,i<st.length) (hl:sb.length=k+caps.length) (h:Kp (blkE k caps st) sb):Kp st (wb caps (sb.drop k) st):=by
 have dl:(sb.drop k).length=caps.length:=by rw[List.length_drop];omega
 have cap:∀(j i:Nat),caps[j]?=some i->(wb caps (sb.drop k) st)[i]?=sb[k+j]?:=fun j i h=>by
  rw[wb_at caps _ st nd dl h (lt i (List.mem_of_getElem? h)),List.getElem?_drop]
 refine⟨wb_len _ _ _,fun i s e g=>?_,fun i d e=>?_⟩
 ·by_cases hc:i∈caps
  ·obtain⟨j,hj⟩:=List.getElem?_of_mem hc;rw[cap j i hj];exact h.has (k+j) s (by rw[blkE_at hj,e];rfl) g
  ·exact⟨s,by rw[wb_out _ _ _ hc];exact e,g⟩
 ·by_cases hc:i∈caps
  ·obtain⟨j,hj⟩:=List.getElem?_of_mem hc;rw[cap j i hj];exact h.io (k+j) d (by rw[blkE_at hj,e];rfl)
  ·exact⟨d,by rw[wb_out _ _ _ hc];exact e⟩
theorem blkE_e {k:Nat} {caps:List Nat} (i:Nat) (s:Sl) (h:(blkE k caps st)[i]?=some s) (hi:i<k):s=.e:=by
 unfold blkE at h;rw[List.getElem?_append_left (by simpa using hi),List.getElem?_replicate,if_pos hi]at h
 exact(Option.some.inj h).symm
noncomputable def ItC (K:PySem.W.Frag) (Z:AS) (caps:List Nat) (st:En) (σ:St) (J:It) (items:List D) (H:Hp) (O:AS):Prop:=∀H' Oi,Ext (Ob caps st σ) H Oi H'->(∀p,U (Oo caps st σ O Oi) Z p->Lv H' p)->(∀i,items.length<=i->J.stop i H')/\∀(i:Nat) d,items[i]?=some d->J.go i H'/\∀x H'',J.yld i H' x H''->Same H' H''/\DA K (U (Oo caps st σ O Oi) Z) H'' x d
noncomputable def RdIC (K:PySem.W.Frag) (caps:List Nat) (wi:TI) (fi:FI):Prop:=∀(st:En) (σ:St) (H:Hp) (O Z:AS) (R:It->Hp->Prop),ER K st σ H O Z->∀items st',fi st=some (items,st') ->
 (∀J H' O',Ext O H O' H'->Kp st st'->ER K st' σ H' O' Z->ItC K Z caps st' σ J items H' O'->R J H')->wi σ H R
theorem RdI.ic {caps:List Nat} {wi:TI} {fi:FI} (h:RdI K wi fi):RdIC K caps wi fi:=fun st σ H O Z R E items st' e q =>
 h st σ H O Z R E items st' e fun J H1 O1 x1 k1 E1 it=>q J H1 O1 x1 k1 E1 fun H' Oi x2 lv=>it H' _ (oo_ext E1 x2) lv
theorem rd_compG {k:Nat} {caps:List Nat} {wi:TI} {fi:FI} {g:TG} {fg:FG} {tg:List Nat} {tc:TT} {fc:FT} {te:TE} {fe:FE} (hi:RdIC K caps wi fi) (hg:RdG K g fg tg) (ht:∀j∈tg,j<k) (hc:RdT K tc fc) (he:RdE K te fe) :
  RdE K (tComp k caps wi g tc te) (fComp k caps fi fg fc fe):=by
 intro st σ H O Z Q E r st' h q;obtain⟨⟨items,st1⟩,e1,h⟩:=Option.bind_eq_some_iff.mp h;by_cases hok:(capsOk caps st1.length&&decide (items.length<=1000000))=true
 rotate_left
 ·simp only[if_neg hok]at h;cases h
 simp only[if_pos hok]at h;obtain⟨⟨total,sf⟩,e2,h⟩:=Option.bind_eq_some_iff.mp h;cases h;have hok1:caps.Nodup/\(∀i∈caps,i<st1.length)/\items.length<=1000000:=by
  rw[Bool.and_eq_true,decide_eq_true_eq]at hok;unfold capsOk at hok;rw[Bool.and_eq_true,decide_eq_true_eq,List.all_eq_true]at hok;exact⟨hok.1.1,fun i hi=>of_decide_eq_true (hok.1.2 i hi),hok.2⟩
 obtain⟨nd,lt,hfew⟩:=hok1;refine hi st σ H O Z _ E items st1 e1 fun J H1 O1 x1 k1 E1 it=>?_;have bl:(blk k caps σ).length=k+caps.length:=by simp[blk]
 have el:(blkE k caps st1).length=k+caps.length:=by simp[blkE]
 refine⟨items.length,fun i xs H'=>∃sb Oi ds ds2,Ext (Ob caps st1 σ) H1 Oi H'/\ER K sb (blk k caps σ) H' Oi (Zb caps st1 σ O1 Z)/\El K (U Oi (Zb caps st1 σ O1 Z)) H' xs ds/\compL fg fc fe k (items.drop i) sb=some (ds2,sf)/\ds++ds2=total/\Kp (blkE k caps st1) sb/\xs.length<=i,
  ⟨blkE k caps st1,Ob caps st1 σ,[],total,Ext.refl _ _,blk_er E1 nd,El.nil,e2,rfl,Kp.refl _,Nat.le_refl _⟩,?_,?_⟩
 ·rintro xs H' ⟨sb,Oi,ds,ds2,x2,B,exs,e3,ed,kb,_⟩;rw[List.drop_eq_nil_of_le (Nat.le_refl _)]at e3;obtain⟨rfl,rfl⟩:([]:List D)=ds2/\sb=sf:=by
   have:=Option.some.inj e3;exact⟨congrArg Prod.fst this,congrArg Prod.snd this⟩
  rw[List.append_nil]at ed;subst ed;obtain⟨stop,_⟩:=it H' Oi x2 (wb_er E1 nd lt (kb.len.trans el) x2 B).liv;refine⟨stop _ (Nat.le_refl _),fun p hp=>?_⟩;have sl:sb.length=k+caps.length:=kb.len.trans el;have Eo:=wb_er E1 nd lt sl x2 B;have ko:=wb_kp nd lt sl kb;have el2:El K (U (Oo caps st1 σ O1 Oi) Z) H' xs ds:=exs.less fun b z=>by
   rcases z with(z|z)|z
   ·exact .inl z
   ·exact .inr (.inr z)
   ·exact .inr (.inl z)
  obtain⟨E3,rv⟩:=Eo.new hp el2;have xx:=x1.trans (oo_ext E1 x2);exact q _ _ _ (xx.trans (Same.ext (same_upd hp _))) (k1.trans ko) E3 rv fun p' e=>by cases e;exact xx.dead hp
 ·rintro i xs H' hlt ⟨sb,Oi,ds,ds2,x2,B,exs,e3,ed,kb,hxl⟩;have hd:items.drop i=items[i]::items.drop (i+1):=List.drop_eq_getElem_cons hlt;rw[hd]at e3;obtain⟨s1,e4,e3⟩:=Option.bind_eq_some_iff.mp e3;obtain⟨⟨c,s2⟩,e5,e3⟩:=Option.bind_eq_some_iff.mp e3;obtain⟨_,go⟩:=it H' Oi x2 (wb_er E1 nd lt (kb.len.trans el) x2 B).liv;obtain⟨g1,g2⟩:=go i _ (List.getElem?_eq_getElem hlt);refine⟨g1,Nat.lt_of_le_of_lt hxl (Nat.lt_of_lt_of_le hlt (few hfew)),fun x H'' hy=>?_⟩;obtain⟨sm,da⟩:=g2 x H'' hy;have xm:Ext Oi H' Oi H'':=Same.ext sm;have da':DA K (U Oi (Zb caps st1 σ O1 Z)) H'' x items[i]:=da.less fun b z=>by
   rcases z with z|z|z
   ·exact .inl (.inl z)
   ·exact .inr z
   ·exact .inl (.inr z)
  refine hg sb _ H'' Oi _ x _ _ (B.same sm) da' s1 e4 fun τ kt kq3 E4=>?_;have sl:sb.length=k+caps.length:=kb.len.trans el;have tl:τ.length=(blk k caps σ).length:=by rw[← E4.len,kq3.len,sl,bl]
  have tk:∀j,k<=j->(blk k caps σ)[j]?=τ[j]?:=fun j hj=>((kt j fun z=>absurd (ht j z) (by omega)).1).symm
  have drop:τ.drop k=(blk k caps σ).drop k:=by
   refine List.ext_getElem? fun j=>?_;rw[List.getElem?_drop,List.getElem?_drop];exact(tk _ (by omega)).symm
  have kp1:Kp (blkE k caps st1) s1:=by
   refine⟨kq3.len.trans kb.len,fun j s e g=>?_,fun j d e=>?_⟩
   ·by_cases hj:j<k
    ·have:=blkE_e j s e hj;subst this;exact absurd rfl g
    ·obtain⟨s',e',g'⟩:=kb.has j s e g;exact⟨s',by rw[(kt j fun z=>absurd (ht j z) (by omega)).2];exact e',g'⟩
   ·by_cases hj:j<k
    ·have:=blkE_e j _ e hj;cases this
    ·obtain⟨d',e'⟩:=kb.io j d e;exact⟨d',by rw[(kt j fun z=>absurd (ht j z) (by omega)).2];exact e'⟩
  refine hc s1 τ H'' Oi _ _ E4 c s2 e5 fun H3 O3 x3 k3 E5=>?_;have kp2:=kp1.trans k3;cases c with
  | false =>
   simp only[Bool.false_eq_true,if_false]at e3 ⊢;have hs2:k<=s2.length:=by rw[kp2.len,el];omega
   exact⟨drop,rst k s2,O3,ds,ds2,(x2.trans xm).trans x3,rst_er E5 tl.symm hs2 tk,exs.ext (xm.trans x3),e3,ed,rst_kp blkE_e kp2 hs2,by omega⟩
  | true =>
   rw[if_pos rfl]at e3 ⊢;obtain⟨⟨ry,s3⟩,e6,e3⟩:=Option.bind_eq_some_iff.mp e3;obtain⟨⟨dy,s4⟩,e7,e3⟩:=Option.bind_eq_some_iff.mp e3;obtain⟨⟨ds3,sf'⟩,e8,e3⟩:=Option.bind_eq_some_iff.mp e3;cases e3;refine he s2 τ H3 O3 _ _ E5 ry s3 e6 fun y H4 O4 x4 k4 E6 rv w=>?_;obtain⟨O5,x5,k5,E7,day⟩:=rv.esc E6 e7;have kp3:=(kp2.trans k4).trans k5;have hs4:k<=s4.length:=by rw[kp3.len,el];omega
   refine⟨drop,rst k s4,O5,ds++[dy],ds3,(((x2.trans xm).trans x3).trans x4).trans x5,rst_er E7 tl.symm hs4 tk,(exs.ext (((xm.trans x3).trans x4).trans x5)).app (El.one day),e8,by rw[List.append_assoc];exact ed,rst_kp blkE_e kp3 hs4,by simp;omega⟩
theorem rd_comp {k:Nat} {caps:List Nat} {wi:TI} {fi:FI} {g:TG} {fg:FG} {tg:List Nat} {tc:TT} {fc:FT} {te:TE} {fe:FE} (hi:RdI K wi fi) (hg:RdG K g fg tg) (ht:∀j∈tg,j<k) (hc:RdT K tc fc) (he:RdE K te fe) :
  RdE K (tComp k caps wi g tc te) (fComp k caps fi fg fc fe):=rd_compG hi.ic hg ht hc he
noncomputable def startE (n:Nat) (ds:List D):En:=ds.map Sl.v++List.replicate (n-ds.length) Sl.e
noncomputable def finR (st:En):Rs->Option Rz
 | .d x=>some (x,false)
 | .f x=>some (x,true)
 | .s i=>match st[i]? with
  | some (.o x)=>some (x,true)
  | some (.v x)=>some (x,false)
  | _=>none
noncomputable def fin:Ot->Option Rz
 | .nx _=>some (.non,false)
 | .rt r st=>finR st r
 | _=>none
noncomputable def bodyV (F:FS) (n m:Nat):List D->Option Rz:=fun ds=>if ds.length=m then(F (startE n ds)).bind fin else none
theorem start_er {N:List Str} (el:El K Z H vs ds) (lv:∀p,Z p->Lv H p):ER K (startE N.length ds) (L2.start N vs) H (fun _=>False) Z:=by
 have gv:∀(i:Nat) s,(startE N.length ds)[i]?=some s->s.get≠none->∃d,s=.v d/\ds[i]?=some d:=fun i s e n=>by
  unfold startE at e;by_cases hi:i<ds.length
  ·rw[List.getElem?_append_left (by simpa using hi),List.getElem?_map]at e
   obtain⟨d,h1,h2⟩:=Option.map_eq_some_iff.mp e;exact⟨d,h2.symm,h1⟩
  ·rw[List.getElem?_append_right (by simpa using hi),List.getElem?_replicate]at e
   by_cases hz:i-(ds.map Sl.v).length<N.length-ds.length
   ·rw[if_pos hz]at e;cases e;exact absurd rfl n
   ·rw[if_neg hz]at e;cases e
 have no:∀(i:Nat) s d,(startE N.length ds)[i]?=some s->s.ow=some d->False:=fun i s d e h=>by
  obtain⟨x,rfl,_⟩:=gv i s e (ow_get h);cases h
 refine⟨by simp[startE,L2.start,el.1],fun i d e=>?_,fun i s d e h=>(no i s d e h).elim,fun i j s t d d' p e h=>(no i s d e h).elim,fun p h=>h.elim,fun p h=>h.elim (fun z=>z.elim) (lv p)⟩
 obtain⟨x,h1,h2⟩:=gv i _ e (by simp[Sl.get])
 cases h1;obtain⟨v,g1,g2⟩:=el.at h2;refine⟨v,?_,g2.less fun b z=>z.elim (fun y=>y.elim) fun y=>y⟩;unfold L2.start;have hi:=(List.getElem?_eq_some_iff.mp g1).1;rw[List.getElem?_append_left (by simpa using hi),List.getElem?_map,g1];rfl
theorem body_ok {ts:TS} {F:FS} {N:List Str} {Q:VK} {XE:XK} (h:RdS K ts F) {m:Nat} (sp:spV K (bodyV F N.length m) vs H Q XE):ts { nx:=fun _ H'=>Q .non H',rt:=Q } (L2.start N vs) H:=by
 obtain⟨Z,ds,z,el,lv,e,q⟩:=sp;have hm:ds.length=m:=by
  by_cases hm:ds.length=m
  ·exact hm
  ·simp only[bodyV,if_neg hm]at e;cases e
 simp only[bodyV,if_pos hm]at e;obtain⟨o,e1,e2⟩:=Option.bind_eq_some_iff.mp e;have same:∀{O':AS} {H':Hp},Ext (fun _=>False) H O' H'->Same H H':=fun {O' H'} x b o e=>x.kp b o e fun z=>z;refine h _ _ H _ Z _ (start_er el lv) o e1 ?_;cases o with
 | nx s =>
  cases e2;exact fun σ' H' O' x _ _=>q .non H' (same x) .non
 | bk s=>cases e2
 | ct s=>cases e2
 | rt r s =>
  intro v σ' H' O' x k E rv w;have sub:∀b,Z b->U O' Z b:=fun b z=>.inr z;cases r with
  | d y=>cases e2;exact q v H' (same x) (DA.less (show DA K (U O' Z) H' v y from rv) sub)
  | f y =>
   cases e2;obtain⟨p,rfl,h1,h2,h3,_⟩:=rv;exact q _ H' (same x) ⟨p,rfl,w p rfl,h3.go rfl (fun _ _ e _=>e) fun b z=>.inl (z.elim .inl fun y=>.inr (.inr y))⟩
  | s i =>
   obtain⟨h1,t,h2,h3⟩:=rv
   have e2':(match s[i]? with
    | some (.o x)=>some (x,true)
    | some (.v x)=>some (x,false)
    | _=>none)=some z:=e2
   rw[h2]at e2';cases t with
   | e=>cases e2'
   | io y=>cases e2'
   | v y =>
    cases e2';obtain⟨u,g1,g2⟩:=E.val i y h2;rw[h1]at g1;cases g1;exact q v H' (same x) (g2.less sub)
   | o y =>
    cases e2';obtain⟨p,g1,g2,g3⟩:=E.own i _ y h2 rfl;rw[h1]at g1;cases g1;refine q _ H' (same x) ⟨p,rfl,(x.nw p g2).elim (fun z=>z.elim) (fun z=>z),g3.go rfl (fun _ _ e _=>e) fun b z=>.inl (z.elim (fun y=>.inl (by rw[y];exact g2)) fun y=>.inr y)⟩
noncomputable def startI (n:Nat) (x:D) (ds:List D):En:=Sl.io x::(ds.map Sl.v++List.replicate (n-(ds.length+1)) Sl.e)
noncomputable def finI (z:Option Rz) (st:En):Option (Rz×D):=match st[0]? with
 | some (Sl.io x)=>z.bind fun y=>some (y,x)
 | _=>none
noncomputable def finIO:Ot->Option (Rz×D)
 | .nx st=>finI (some (.non,false)) st
 | .rt r st=>finI (finR st r) st
 | _=>none
noncomputable def bodyIO (F:FS) (n m:Nat):D->List D->Option (Rz×D):=fun x ds=>if ds.length+1=m then(F (startI n x ds)).bind finIO else none
theorem startI_er {N : List Str} {f : Addr} {x : D} {ws : List V} (nz : ¬ Z f) (ho : OA K (ins f Z) H f x) (el : El K (ins f Z) H ws ds) (lv : ∀ p, Z p → Lv H p) : ER K (startI N.length x ds) (L2.start N (.ref f :: ws)) H (fun b => b = f) Z := by
  have gv : ∀ (i : Nat) s, (startI N.length x ds)[i]? = some s → s.get ≠ none → (i = 0 ∧ s = .io x) ∨ ∃ j d, i = j + 1 ∧ s = .v d ∧ ds[j]? = some d := fun i s e n => by
    cases i with
    | zero => left; exact ⟨rfl, by have : Sl.io x = s := by simpa [startI] using e
                                   exact this.symm⟩
    | succ j =>
      right;have e : (ds.map Sl.v ++ List.replicate (N.length - (ds.length + 1)) Sl.e)[j]? = some s := by simpa [startI] using e
      by_cases hi : j < ds.length
      · rw [List.getElem?_append_left (by simpa using hi), List.getElem?_map] at e
        obtain ⟨d, h1, h2⟩ := Option.map_eq_some_iff.mp e;exact ⟨j, d, rfl, h2.symm, h1⟩
      · rw [List.getElem?_append_right (by simpa using hi), List.getElem?_replicate] at e
        by_cases hz : j - (ds.map Sl.v).length < N.length - (ds.length + 1)
        · rw [if_pos hz] at e; cases e; exact absurd rfl n
        · rw [if_neg hz] at e; cases e
  have s0 : (L2.start N (.ref f :: ws))[0]? = some (some (.ref f)) := by simp [L2.start]
  have own0 : ∀ (i : Nat) s d, (startI N.length x ds)[i]? = some s → s.ow = some d → i = 0 ∧ d = x := fun i s d e h => by
    rcases gv i s e (ow_get h) with ⟨h1, rfl⟩ | ⟨j, d', _, rfl, _⟩
    · cases h; exact ⟨h1, rfl⟩
    · cases h
  refine ⟨by simp [startI, L2.start, el.1], fun i d e => ?_, fun i s d e h => ?_, fun i j s t d d' p e h e' h' _ _ => ?_, fun p h => by rw [h]; exact nz, fun p h => ?_⟩
  · rcases gv i _ e (by simp [Sl.get]) with ⟨_, h⟩ | ⟨j, d', rfl, h, h2⟩
    · cases h
    · cases h
      obtain ⟨v, g1, g2⟩ := el.at h2;refine ⟨v, ?_, g2⟩;have hi := (List.getElem?_eq_some_iff.mp g1).1;unfold L2.start;rw [List.getElem?_append_left (by simp; omega), List.getElem?_map]
      simp [g1]
  · obtain ⟨rfl, rfl⟩ := own0 i s d e h
    exact ⟨f, s0, rfl, ho⟩
  · rw [(own0 i s d e h).1, (own0 j t d' e' h').1]
  · rcases h with h | h
    · rw [h]; exact ho.lv
    · exact lv p h
theorem bodyIO_ok {ts:TS} {F:FS} {N:List Str} {Q:VK} {XE:XK} (h:RdS K ts F) {m:Nat} (sp:spIO K (bodyIO F N.length m) vs H Q XE):ts { nx:=fun _ H'=>Q .non H',rt:=Q } (L2.start N vs) H:=by
 obtain⟨f,ws,Z,x,ds,z,x',rfl,nz,ho,el,lv,e,q⟩:=sp;have hm:ds.length+1=m:=by
  by_cases hm:ds.length+1=m
  ·exact hm
  ·simp only[bodyIO,if_neg hm]at e;cases e
 simp only[bodyIO,if_pos hm]at e;obtain⟨o,e1,e2⟩:=Option.bind_eq_some_iff.mp e;have but:∀{O':AS} {H':Hp},Ext (fun b=>b=f) H O' H'->∀b o,H b=some o->b≠f->H' b=some o:=fun {O' H'} x b o e n=>x.kp b o e n;have i0:(startI N.length x ds)[0]?=some (.io x):=rfl;have s0:(L2.start N (.ref f::ws))[0]?=some (some (.ref f)):=by simp[L2.start]
 have f0:∀{s:En} {σ':St} {H':Hp} {O':AS} {y:D},Kq (startI N.length x ds) (L2.start N (.ref f::ws)) s σ'->ER K s σ' H' O' Z->s[0]?=some (.io y)->O' f/\OA K (U O' Z) H' f y:=fun {s σ' H' O' y} k E e=>by
  obtain⟨g1,_⟩:=k.io 0 x i0;obtain⟨p,h1,h2,h3⟩:=E.own 0 _ y e rfl;rw[g1,s0]at h1;cases h1;exact⟨h2,h3⟩
 refine h _ _ H _ Z _ (startI_er nz ho el lv) o e1 ?_;cases o with
 | bk s=>cases e2
 | ct s=>cases e2
 | nx s =>
  intro σ' H' O' x2 k E;have e3:finI (some (.non,false)) s=some (z,x'):=e2;unfold finI at e3;split at e3
  ·rename_i y ey
   cases e3;obtain⟨h1,h2⟩:=f0 k E ey;exact q .non H' (but x2) ⟨.non,h2.go rfl (fun _ _ e _=>e) fun b z=>.inl (z.elim (fun w=>.inl (by rw[w];exact h1)) .inr)⟩
  ·cases e3
 | rt r s =>
  intro v σ' H' O' x2 k E rv w;have e3:finI (finR s r) s=some (z,x'):=e2;unfold finI at e3;split at e3
  ·rename_i y ey
   obtain⟨z',e4,e3⟩:=Option.bind_eq_some_iff.mp e3;cases e3;obtain⟨h1,h2⟩:=f0 k E ey;have sub:∀b,ins f Z b->U O' Z b:=fun b z=>z.elim (fun w=>.inl (by rw[w];exact h1)) .inr
   cases r with
   | d u=>cases e4;exact q v H' (but x2) ⟨DA.less (show DA K (U O' Z) H' v u from rv) sub,h2.go rfl (fun _ _ e _=>e) fun b z=>.inl (sub b z)⟩
   | f u =>
    cases e4;obtain⟨p,rfl,g1,g2,g3,E2⟩:=rv;obtain⟨h3,h4⟩:=f0 k E2 ey;exact q _ H' (but x2) ⟨p,rfl,w p rfl,g3.go rfl (fun _ _ e _=>e) (fun b z=>.inl (z.elim .inl fun y=>.inr (sub b y))),h4.go rfl (fun _ _ e _=>e) fun b z=>.inl (z.elim (fun y=>.inl (.inl y)) fun y=>(sub b y).elim (fun a=>.inl (.inr a)) .inr)⟩
   | s i =>
    obtain⟨g1,t,g2,g3⟩:=rv
    have e5:(match s[i]? with
     | some (.o x)=>some (x,true)
     | some (.v x)=>some (x,false)
     | _=>none)=some z:=e4
    rw[g2]at e5;cases t with
    | e=>cases e5
    | io u=>cases e5
    | v u =>
     cases e5;obtain⟨u',j1,j2⟩:=E.val i u g2;rw[g1]at j1;cases j1;exact q v H' (but x2) ⟨j2.less sub,h2.go rfl (fun _ _ e _=>e) fun b z=>.inl (sub b z)⟩
    | o u =>
     cases e5;obtain⟨p,j1,j2,j3⟩:=E.own i _ u g2 rfl;rw[g1]at j1;cases j1;have npf:p≠f:=fun z=>by
      subst z;obtain⟨p0,l1,_⟩:=E.own 0 _ _ ey rfl;obtain⟨l2,_⟩:=k.io 0 x i0;rw[l2,s0]at l1;cases l1;have:=E.uni i 0 _ _ u _ _ g2 rfl ey rfl g1 (by rw[l2,s0])
      subst this;rw[ey]at g2;cases g2
     have hp:H p=none:=(x2.nw p j2).elim (fun z=>absurd z npf) (fun z=>z);have sub2:∀b,ins p (ins f Z) b->U O' Z b:=fun b z=>z.elim (fun y=>.inl (by rw[y];exact j2)) (sub b)
     exact q _ H' (but x2) ⟨p,rfl,hp,j3.go rfl (fun _ _ e _=>e) (fun b z=>.inl (sub2 b z)),h2.go rfl (fun _ _ e _=>e) fun b z=>.inl (sub2 b z)⟩
  ·cases e3
theorem lenV {F:FS} {n m:Nat} {Q:VK} {XE:XK} (sp:spV K (bodyV F n m) vs H Q XE):vs.length=m:=by
 obtain⟨Z,ds,z,el,lv,e,q⟩:=sp;by_cases hm:ds.length=m
 ·exact el.1.trans hm
 ·simp only[bodyV,if_neg hm]at e;cases e
theorem lenIO {F:FS} {n m:Nat} {Q:VK} {XE:XK} (sp:spIO K (bodyIO F n m) vs H Q XE):vs.length=m:=by
 obtain⟨f,ws,Z,x,ds,z,x',rfl,nz,ho,el,lv,e,q⟩:=sp;by_cases hm:ds.length+1=m
 ·have:=el.1;simp;omega
 ·simp only[bodyIO,if_neg hm]at e;cases e
end
end VF
namespace VF
open PySem L2
section
variable {K:PySem.W.Frag} {Y Y':AS} {H H':Hp} {v:V} {d:D} {vs:List V} {ds:List D}
noncomputable def orD (b b':D->D->Option Rz):D->D->Option Rz:=fun x y=>match b x y with
 | some z=>some z
 | none=>b' x y
theorem RdOp.or {r r':R2} {b b':D->D->Option Rz} (h:RdOp K r b) (h':RdOp K r' b'):RdOp K (fun x y H Q=>r x y H Q∨r' x y H Q) (orD b b'):=by
 intro Y H x y d1 d2 z Q lv b1 b2 e q;unfold orD at e;split at e
 ·rename_i z' ez
  cases e;exact .inl (h Y H x y d1 d2 z Q lv b1 b2 ez q)
 ·exact .inr (h' Y H x y d1 d2 z Q lv b1 b2 e q)
noncomputable def orC (b b':List D->Option Rz):List D->Option Rz:=fun x=>match b x with
 | some z=>some z
 | none=>b' x
theorem RdCB.or {r r':List V->Hp->VK->Prop} {b b':List D->Option Rz} (h:RdCB K r b) (h':RdCB K r' b'):RdCB K (fun xs H Q=>r xs H Q∨r' xs H Q) (orC b b'):=by
 intro Y H xs ds z Q lv b1 e q;unfold orC at e;split at e
 ·rename_i z' ez
  cases e;exact .inl (h Y H xs ds z Q lv b1 ez q)
 ·exact .inr (h' Y H xs ds z Q lv b1 e q)
noncomputable def bI0 (g:Int->Int->D):D->D->Option Rz
 | .int i,.int j=>some (g i j,false)
 | _,_=>none
theorem ro_I0 {gV:Int->Int->V} {gD:Int->Int->D} (h:∀Y H i j,DA K Y H (gV i j) (gD i j)):RdOp K (rI0 gV) (bI0 gD):=by
 intro Y H x y d1 d2 z Q lv b1 b2 e q;cases d1 with
 | int i =>
  cases d2 with
  | int j =>
   cases e;exact⟨i,j,b1,b2,q _ H (Same.refl H) (h Y H i j)⟩
  | _=>cases e
 | _=>cases e
noncomputable def bI (C:Int->Int->Prop) [∀i j,Decidable (C i j)] (g:Int->Int->D):D->D->Option Rz
 | .int i,.int j=>if C i j then some (g i j,false) else none
 | _,_=>none
theorem ro_I {C:Int->Int->Prop} [dc:∀i j,Decidable (C i j)] {gV:Int->Int->V} {gD:Int->Int->D} (h:∀Y H i j,DA K Y H (gV i j) (gD i j)):RdOp K (rI C gV) (bI C gD):=by
 intro Y H x y d1 d2 z Q lv b1 b2 e q;cases d1 with
 | int i =>
  cases d2 with
  | int j =>
   by_cases c:C i j
   ·simp only[bI,if_pos c]at e;cases e;exact⟨i,j,b1,b2,c,q _ H (Same.refl H) (h Y H i j)⟩
   ·simp only[bI,if_neg c]at e;cases e
  | _=>cases e
 | _=>cases e
noncomputable instance (i j:Int):Decidable (CMul i j):=by unfold CMul;infer_instance
noncomputable instance (i j:Int):Decidable (CDiv i j):=by unfold CDiv;infer_instance
noncomputable instance (i j:Int):Decidable (CPow i j):=by unfold CPow;infer_instance
noncomputable def bAddI:=bI0 fun i j=>.int (i+j)
noncomputable def bSub:=bI0 fun i j=>.int (i-j)
noncomputable def bMulI:=bI CMul fun i j=>.int (i*j)
noncomputable def bDiv:=bI CDiv fun i j=>.int (i / j)
noncomputable def bMod:=bI (fun _ j=>0<j) fun i j=>.int (i % j)
noncomputable def bPow:=bI CPow fun i j=>.int (i ^ j.toNat)
noncomputable def bLtI:=bI0 fun i j=>.bl (decide (i<j))
noncomputable def bLe:=bI0 fun i j=>.bl (decide (i<=j))
noncomputable def bGt:=bI0 fun i j=>.bl (decide (j<i))
noncomputable def bGe:=bI0 fun i j=>.bl (decide (j<=i))
theorem ro_addI:RdOp K (rI0 fun i j=>.int (i+j)) bAddI:=ro_I0 fun _ _ _ _=>.int _
theorem ro_sub:RdOp K (rI0 fun i j=>.int (i-j)) bSub:=ro_I0 fun _ _ _ _=>.int _
theorem ro_mulI:RdOp K (rI CMul fun i j=>.int (i*j)) bMulI:=ro_I fun _ _ _ _=>.int _
theorem ro_div:RdOp K (rI CDiv fun i j=>.int (i / j)) bDiv:=ro_I fun _ _ _ _=>.int _
theorem ro_mod:RdOp K (rI (fun _ j=>0<j) fun i j=>.int (i % j)) bMod:=ro_I fun _ _ _ _=>.int _
theorem ro_pow:RdOp K (rI CPow fun i j=>.int (i ^ j.toNat)) bPow:=ro_I fun _ _ _ _=>.int _
theorem ro_ltI:RdOp K (rI0 fun i j=>.bl (decide (i<j))) bLtI:=ro_I0 fun _ _ _ _=>.bl _
theorem ro_le:RdOp K (rI0 fun i j=>.bl (decide (i<=j))) bLe:=ro_I0 fun _ _ _ _=>.bl _
theorem ro_gt:RdOp K (rI0 fun i j=>.bl (decide (j<i))) bGt:=ro_I0 fun _ _ _ _=>.bl _
theorem ro_ge:RdOp K (rI0 fun i j=>.bl (decide (j<=i))) bGe:=ro_I0 fun _ _ _ _=>.bl _
noncomputable def uNeg:D->Option Rz
 | .int i=>some (.int (-i),false)
 | _=>none
theorem ru_neg:RdUn K (rU fun i=>.int (-i)) uNeg:=by
 intro Y H x d1 z Q lv b1 e q;cases d1 with
 | int i=>cases e;exact⟨i,b1,q _ H (Same.refl H) (.int _)⟩
 | _=>cases e
noncomputable def scD:D->Option V
 | .non=>some .non
 | .bl b=>some (.bl b)
 | .int i=>some (.int i)
 | .str x=>some (.str x)
 | _=>none
theorem scD_ba {w:V} (h:BA K Y H v d) (e:scD d=some w):v=w:=by
 cases d with
 | non=>cases e;exact h
 | bl b=>cases e;exact h
 | int i=>cases e;exact h
 | str x=>cases e;exact h
 | _=>cases e
theorem scD_flat {w:V} (e:scD d=some w):flatV w=true:=by
 cases d with
 | non=>cases e;rfl
 | bl b=>cases e;rfl
 | int i=>cases e;rfl
 | str x=>cases e;rfl
 | _=>cases e
noncomputable def bEqS (neg:Bool):D->D->Option Rz:=fun a b=>(scD a).bind fun x=>(scD b).bind fun y=>if scal x y=true then some (.bl (if neg then !decide (x=y) else decide (x=y)),false) else none
theorem ro_eqS:RdOp K rEq (bEqS false):=by
 intro Y H x y d1 d2 z Q lv b1 b2 e q;obtain⟨x',e1,e⟩:=Option.bind_eq_some_iff.mp e;obtain⟨y',e2,e⟩:=Option.bind_eq_some_iff.mp e;by_cases c:scal x' y'=true
 ·simp only[if_pos c]at e;cases e;obtain rfl:=scD_ba b1 e1;obtain rfl:=scD_ba b2 e2;exact⟨c,q _ H (Same.refl H) (.bl _)⟩
 ·simp only[if_neg c]at e;cases e
theorem ro_neS:RdOp K rNe (bEqS true):=by
 intro Y H x y d1 d2 z Q lv b1 b2 e q;obtain⟨x',e1,e⟩:=Option.bind_eq_some_iff.mp e;obtain⟨y',e2,e⟩:=Option.bind_eq_some_iff.mp e;by_cases c:scal x' y'=true
 ·simp only[if_pos c]at e;cases e;obtain rfl:=scD_ba b1 e1;obtain rfl:=scD_ba b2 e2;exact⟨c,q _ H (Same.refl H) (.bl _)⟩
 ·simp only[if_neg c]at e;cases e
noncomputable def bAddS:D->D->Option Rz
 | .str a,.str b=>if a.length+b.length<=1000000 then some (.str (a++b),false) else none
 | _,_=>none
theorem ro_addS:RdOp K (fun x y H Q=>∃i j,x=.str i/\y=.str j/\i.length+j.length<=sizeLine/\Q (.str (i++j)) H) bAddS:=by
 intro Y H x y d1 d2 z Q lv b1 b2 e q;cases d1 with
 | str a =>
  cases d2 with
  | str b =>
   by_cases c:a.length+b.length<=1000000
   ·simp only[bAddS,if_pos c]at e;cases e;exact⟨a,b,b1,b2,few c,q _ H (Same.refl H) (.str _)⟩
   ·simp only[bAddS,if_neg c]at e;cases e
  | _=>cases e
 | _=>cases e
theorem res_new {ds:List D} {p:Addr} (el:El K Y H vs ds) (hp:H p=none):RES K Y H (upd H p (.lst vs)) (.ref p) (.lst ds,true) :=
 ⟨p,rfl,hp,vs,upd_same,el.away (same_upd hp _) hp⟩
theorem res_newT {ds:List D} {p:Addr} (el:El K Y H vs ds) (hp:H p=none) (lv:∀p,Y p->Lv H p):RES K Y H (upd H p (.tup vs)) (.ref p) (.tup ds,false) :=
 .tup ⟨upd_same,fun z=>(lv p z).1 hp⟩ el.1 (el.same (same_upd hp _)).2
noncomputable def bCat:D->D->Option Rz
 | .lst a,.lst b=>if a.length+b.length<=1000000 then some (.lst (a++b),true) else none
 | _,_=>none
theorem ro_cat:RdOp K rCat bCat:=by
 intro Y H x y d1 d2 z Q lv b1 b2 e q;cases d1 with
 | lst a =>
  cases d2 with
  | lst b =>
   by_cases c:a.length+b.length<=1000000
   ·simp only[bCat,if_pos c]at e;cases e;obtain⟨p,xs,rfl,hp,el⟩:=b1;obtain⟨p2,ys,rfl,hp2,el2⟩:=b2;exact⟨p,p2,xs,ys,rfl,rfl,hp,hp2,by rw[el.1,el2.1];exact few c,fun r hr=>q _ _ (same_upd hr _) (res_new (el.app el2) hr)⟩
   ·simp only[bCat,if_neg c]at e;cases e
  | _=>cases e
 | _=>cases e
noncomputable def bCatT:D->D->Option Rz
 | .tup (x::a),.tup (y::b)=>if a.length+b.length<=999998 then some (.tup ((x::a)++(y::b)),false) else none
 | .tup (x::a),.tup []=>if a.length<=999998 then some (.tup (x::a),false) else none
 | _,_=>none
theorem ro_catT:RdOp K (rCatT K) bCatT:=by
 intro Y H x y d1 d2 z Q lv b1 b2 e q;cases d1 with
 | tup a =>
  cases a with
  | nil=>cases d2<;>cases e
  | cons a0 a =>
  cases d2 with
  | tup b =>
   obtain⟨p,xs,rfl,hp,el⟩:=b1;obtain⟨p2,ys,rfl,hp2,el2⟩:=b2;have hx:xs≠[]:=fun z=>by have:=el.1;rw[z]at this;cases this
   cases b with
   | nil =>
    by_cases c:a.length<=999998
    ·simp only[bCatT,if_pos c]at e;cases e;obtain rfl:=el2.unnil;exact⟨p,p2,xs,[],rfl,rfl,hp.sq,hp2.sq,hx,by rw[el.1];exact few (by simp;omega),fun _=>q _ H (Same.refl H) (.tup hp el.1 el.2),fun z=>absurd rfl z⟩
    ·simp only[bCatT,if_neg c]at e;cases e
   | cons b0 b =>
    by_cases c:a.length+b.length<=999998
    ·simp only[bCatT,if_pos c]at e;cases e;have hy:ys≠[]:=fun z=>by have:=el2.1;rw[z]at this;cases this
     exact⟨p,p2,xs,ys,rfl,rfl,hp.sq,hp2.sq,hx,by rw[el.1,el2.1];exact few (by simp;omega),fun z=>absurd z hy,fun _ r hr=>q _ _ (same_upd hr _) (res_newT (el.app el2) hr lv)⟩
    ·simp only[bCatT,if_neg c]at e;cases e
  | _=>cases e
 | _=>cases d2<;>cases e
noncomputable def bAdd:=orD bAddI (orD bAddS (orD bCat bCatT))
noncomputable def bMulS:D->D->Option Rz
 | .str a,.int n=>if 0<=n/\n<=1000/\a.length<=1000 then some (.str (Txt.mul a n),false) else none
 | _,_=>none
theorem ro_mulS:RdOp K (fun x y H Q=>∃(a:Str) (n:Int),x=.str a/\y=.int n/\MulOk a n/\Q (.str (Txt.mul a n)) H) bMulS:=by
 intro Y H x y d1 d2 z Q lv b1 b2 e q;cases d1 with
 | str a =>
  cases d2 with
  | int n =>
   by_cases c:0<=n/\n<=1000/\a.length<=1000
   ·simp only[bMulS,if_pos c]at e;cases e;exact⟨a,n,b1,b2,mulOk_of c.1 c.2.1 c.2.2,q _ H (Same.refl H) (.str _)⟩
   ·simp only[bMulS,if_neg c]at e;cases e
  | _=>cases e
 | _=>cases e
noncomputable def bMul:=orD bMulI bMulS
noncomputable def bLtS:D->D->Option Rz
 | .str a,.str b=>some (.bl (decide (a.cps.toList<b.cps.toList)),false)
 | _,_=>none
theorem ro_ltS:RdOp K (fun x y H Q=>∃i j,x=.str i/\y=.str j/\Q (.bl (decide (i.cps.toList<j.cps.toList))) H) bLtS:=by
 intro Y H x y d1 d2 z Q lv b1 b2 e q;cases d1 with
 | str a =>
  cases d2 with
  | str b=>cases e;exact⟨a,b,b1,b2,q _ H (Same.refl H) (.bl _)⟩
  | _=>cases e
 | _=>cases e
noncomputable def bLt:=orD bLtI bLtS
noncomputable def bInS (neg:Bool):D->D->Option Rz
 | .str a,.str b=>some (.bl (if neg then !(!(Builtin.Str.occurrences b a 0 b.length 1).isEmpty) else !(Builtin.Str.occurrences b a 0 b.length 1).isEmpty),false)
 | _,_=>none
theorem ro_inS:RdOp K (fun x y H Q=>∃i j,x=.str i/\y=.str j/\Q (.bl (!(Builtin.Str.occurrences j i 0 j.length 1).isEmpty)) H) (bInS false):=by
 intro Y H x y d1 d2 z Q lv b1 b2 e q;cases d1 with
 | str a =>
  cases d2 with
  | str b=>cases e;exact⟨a,b,b1,b2,q _ H (Same.refl H) (.bl _)⟩
  | _=>cases e
 | _=>cases e
noncomputable def scAll:List D->Option (List V)
 | []=>some []
 | d::r=>(scD d).bind fun v=>(scAll r).bind fun vs=>some (v::vs)
theorem scAll_el:∀{ds:List D} {vs ws:List V},El K Y H vs ds->scAll ds=some ws->vs=ws/\ws.all flatV=true
 | [],vs,ws,el,e=>by cases e;exact⟨el.unnil,rfl⟩
 | d::r,vs,ws,el,e=>by
  obtain⟨w,e1,e⟩:=Option.bind_eq_some_iff.mp e;obtain⟨ws',e2,e⟩:=Option.bind_eq_some_iff.mp e;cases e;obtain⟨v,t,rfl,da,el⟩:=el.uncons;obtain⟨rfl,h⟩:=scAll_el el e2;have hv:=scD_ba da.ba e1;subst hv;exact⟨rfl,by rw[List.all_cons,scD_flat e1,h];rfl⟩
noncomputable def D.seq:D->Option (List D)
 | .lst ds=>some ds
 | .tup ds=>some ds
 | .fl ds=>some ds
 | _=>none
theorem seq_ba (h:BA K Y H v d) (e:d.seq=some ds):∃a vs,v=.ref a/\(SqL K H a vs∨SqT K H a vs)/\El K Y H vs ds:=by
 cases d with
 | lst _=>cases e;obtain⟨a,vs,h1,h2,h3⟩:=h;exact⟨a,vs,h1,.inl (.inl (.inl h2)),h3⟩
 | tup _=>cases e;obtain⟨a,vs,h1,h2,h3⟩:=h;exact⟨a,vs,h1,.inr h2.sq,h3⟩
 | fl _=>cases e;obtain⟨a,vs,h1,h2,h3⟩:=h;exact⟨a,vs,h1,.inl h2.sq,h3⟩
 | _=>cases e
noncomputable def bInF (neg:Bool):D->D->Option Rz:=fun a b=>(scD a).bind fun x=>(b.seq).bind fun ds=>(scAll ds).bind fun ws=>some (.bl (if neg then !inV x ws else inV x ws),false)
theorem ro_inF (neg:Bool):RdOp K (rIn K neg) (bInF neg):=by
 intro Y H x y d1 d2 z Q lv b1 b2 e q;obtain⟨x',e1,e⟩:=Option.bind_eq_some_iff.mp e;obtain⟨ds,e2,e⟩:=Option.bind_eq_some_iff.mp e;obtain⟨ws,e3,e⟩:=Option.bind_eq_some_iff.mp e;cases e;obtain⟨a,vs,rfl,sq,el⟩:=seq_ba b2 e2;obtain rfl:=scD_ba b1 e1;obtain⟨rfl,h⟩:=scAll_el el e3;exact⟨a,vs,rfl,sq,scD_flat e1,h,q _ H (Same.refl H) (.bl _)⟩
noncomputable def bIn:=orD (bInS false) (bInF false)
noncomputable def bIxL:D->D->Option Rz
 | .lst ds,.int i=>(atI ds i).bind fun d=>some (d,false)
 | .fl ds,.int i=>(atI ds i).bind fun d=>some (d,false)
 | _,_=>none
noncomputable def bIxT:D->D->Option Rz
 | .tup ds,.int i=>(atI ds i).bind fun d=>some (d,false)
 | _,_=>none
noncomputable def bIxS:D->D->Option Rz
 | .str z,.int i=>if z.length<=1000000 then(atI z.cps.toList i).bind fun c=>some (.str ⟨#[c]⟩,false) else none
 | _,_=>none
theorem atI_el {i:Int} (el:El K Y H vs ds) (e:atI ds i=some d):∃v,atI vs i=some v/\DA K Y H v d:=by
 unfold atI at e ⊢;rw[el.1];obtain⟨j,e1,e2⟩:=Option.bind_eq_some_iff.mp e;obtain⟨v,h1,h2⟩:=el.at e2;exact⟨v,by rw[e1];exact h1,h2⟩
theorem ro_ixL:RdOp K (rIxL K) bIxL:=by
 intro Y H x y d1 d2 z Q lv b1 b2 e q;cases d1 with
 | lst a =>
  cases d2 with
  | int i =>
   obtain⟨d,e1,e⟩:=Option.bind_eq_some_iff.mp e;cases e;obtain⟨p,xs,rfl,hp,el⟩:=b1;obtain⟨v,h1,h2⟩:=atI_el el e1;exact⟨p,xs,i,v,rfl,b2,.inl (.inl hp),h1,q v H (Same.refl H) h2⟩
  | _=>cases e
 | fl a =>
  cases d2 with
  | int i =>
   obtain⟨d,e1,e⟩:=Option.bind_eq_some_iff.mp e;cases e;obtain⟨p,xs,rfl,hp,el⟩:=b1;obtain⟨v,h1,h2⟩:=atI_el el e1;exact⟨p,xs,i,v,rfl,b2,hp.sq,h1,q v H (Same.refl H) h2⟩
  | _=>cases e
 | _=>cases d2<;>cases e
theorem ro_ixT:RdOp K (rIxT K) bIxT:=by
 intro Y H x y d1 d2 z Q lv b1 b2 e q;cases d1 with
 | tup a =>
  cases d2 with
  | int i =>
   obtain⟨d,e1,e⟩:=Option.bind_eq_some_iff.mp e;cases e;obtain⟨p,xs,rfl,hp,el⟩:=b1;obtain⟨v,h1,h2⟩:=atI_el el e1;exact⟨p,xs,i,v,rfl,b2,hp.sq,h1,q v H (Same.refl H) h2⟩
  | _=>cases e
 | _=>cases d2<;>cases e
theorem ro_ixS:RdOp K rIxS bIxS:=by
 intro Y H x y d1 d2 z Q lv b1 b2 e q;cases d1 with
 | str a =>
  cases d2 with
  | int i =>
   by_cases c:a.length<=1000000
   ·simp only[bIxS,if_pos c]at e;obtain⟨ch,e1,e⟩:=Option.bind_eq_some_iff.mp e;cases e;exact⟨a,i,ch,b1,b2,few c,e1,q _ H (Same.refl H) (.str _)⟩
   ·simp only[bIxS,if_neg c]at e;cases e
  | _=>cases e
 | _=>cases d2<;>cases e
noncomputable def bIx:=orD bIxL (orD bIxT bIxS)
theorem ro_ix:RdOp K (rIx K) bIx:=ro_ixL.or (ro_ixT.or ro_ixS)
noncomputable abbrev FO:=En->Option (Option Int×En)
noncomputable def RdO (K:PySem.W.Frag) (t:TO) (f:FO):Prop:=∀(st:En) (σ:St) (H:Hp) (O Z:AS) (Q:Option Int->Hp->Prop),ER K st σ H O Z->∀c st',f st=some (c,st') ->
 (∀H' O',Ext O H O' H'->Kp st st'->ER K st' σ H' O' Z->Q c H')->t σ H Q
noncomputable def oNo:FO:=fun st=>some (none,st)
theorem rdo_no:RdO K tNoPart oNo:=by
 intro st σ H O Z Q E c st' e q;cases e;exact q H O (Ext.refl _ _) (Kp.refl _) E
noncomputable def asInt (st:En) (r:Rs):Option Int:=match cont st r with
 | some (.int i)=>some i
 | _=>none
noncomputable def oPart (fe:FE):FO:=fun st=>(fe st).bind fun x=>(asInt x.2 x.1).bind fun i=>some (some i,x.2)
theorem rdo_part {te:TE} {fe:FE} (h:RdE K te fe):RdO K (tPart te) (oPart fe):=by
 intro st σ H O Z Q E c st' e q;obtain⟨⟨r,st1⟩,e1,e⟩:=Option.bind_eq_some_iff.mp e;obtain⟨i,e2,e⟩:=Option.bind_eq_some_iff.mp e;cases e;refine h st σ H O Z _ E r _ e1 fun v H1 O1 x1 k1 E1 rv w=>?_;have ev:v=.int i:=by
  unfold asInt at e2;split at e2
  ·rename_i j ej
   cases e2;exact rv.ba E1 ej
  ·cases e2
 exact⟨i,ev,q H1 O1 x1 k1 E1⟩
noncomputable def RdSl (K:PySem.W.Frag) (r:V->Option Int->Option Int->Hp->VK->Prop) (b:D->Option Int->Option Int->Option Rz):Prop:=∀(Y:AS) (H:Hp) (x:V) (lo hi:Option Int) (d1:D) (z:Rz) (Q:VK),(∀p,Y p->Lv H p)->BA K Y H x d1->b d1 lo hi=some z ->
 (∀v H',Same H H'->RES K Y H H' v z->Q v H')->r x lo hi H Q
noncomputable def fSl (b:D->Option Int->Option Int->Option Rz) (fe:FE) (fl fh:FO):FE:=fun st=>(fe st).bind fun x=>(fl x.2).bind fun l=>(fh l.2).bind fun u=>(cont u.2 x.1).bind fun d=>(b d l.1 u.1).bind fun z=>some (mk z,u.2)
theorem rd_slice {r:V->Option Int->Option Int->Hp->VK->Prop} {b:D->Option Int->Option Int->Option Rz} {te:TE} {fe:FE} {tl th:TO} {fl fh:FO} (hr:RdSl K r b) (he:RdE K te fe) (hl:RdO K tl fl) (hh:RdO K th fh):RdE K (tSl r te tl th) (fSl b fe fl fh):=by
 intro st σ H O Z Q E r' st' h q;obtain⟨⟨r1,st1⟩,e1,h⟩:=Option.bind_eq_some_iff.mp h;obtain⟨⟨lo,st2⟩,e2,h⟩:=Option.bind_eq_some_iff.mp h;obtain⟨⟨hi,st3⟩,e3,h⟩:=Option.bind_eq_some_iff.mp h;obtain⟨d1,e4,h⟩:=Option.bind_eq_some_iff.mp h;obtain⟨z,e5,h⟩:=Option.bind_eq_some_iff.mp h;cases h;refine he st σ H O Z _ E r1 st1 e1 fun v1 H1 O1 x1 k1 E1 rv1 w1=>?_;refine hl st1 σ H1 O1 Z _ E1 lo st2 e2 fun H2 O2 x2 k2 E2=>?_;refine hh st2 σ H2 O2 Z _ E2 hi _ e3 fun H3 O3 x3 k3 E3=>?_;have b1:=(rv1.nf.ext (x2.trans x3) (k2.trans k3)).ba E3 (by rw[cont_nf];exact e4)
 refine hr (U O3 Z) H3 v1 lo hi d1 z _ E3.liv b1 e5 fun v H4 s hres=>?_;obtain⟨E4,rv4⟩:=hres.rv E3 s;have xx:=(x1.trans x2).trans x3;exact q v H4 O3 (xx.trans (Same.ext s)) ((k1.trans k2).trans k3) E4 rv4 (hres.fsh.back xx)
noncomputable def cutD (xs:List D) (lo hi:Option Int):List D:=(xs.drop (HT.sIx xs.length 0 lo)).take (HT.sIx xs.length xs.length hi-HT.sIx xs.length 0 lo)
theorem El.cut (el:El K Y H vs ds) (lo hi:Option Int):El K Y H (cutV vs lo hi) (cutD ds lo hi):=by
 unfold cutV cutD;rw[el.1];exact(el.drop _).take _
noncomputable def orS (b b':D->Option Int->Option Int->Option Rz):D->Option Int->Option Int->Option Rz:=fun x l h=>match b x l h with
 | some z=>some z
 | none=>b' x l h
theorem RdSl.or {r r':V->Option Int->Option Int->Hp->VK->Prop} {b b':D->Option Int->Option Int->Option Rz} (h:RdSl K r b) (h':RdSl K r' b'):RdSl K (fun x lo hi H Q=>r x lo hi H Q∨r' x lo hi H Q) (orS b b'):=by
 intro Y H x lo hi d1 z Q lv b1 e q;unfold orS at e;split at e
 ·rename_i z' ez
  cases e;exact .inl (h Y H x lo hi d1 z Q lv b1 ez q)
 ·exact .inr (h' Y H x lo hi d1 z Q lv b1 e q)
noncomputable def bSlL:D->Option Int->Option Int->Option Rz
 | .lst ds,lo,hi=>some (.lst (cutD ds lo hi),true)
 | .fl ds,lo,hi=>some (.lst (cutD ds lo hi),true)
 | _,_,_=>none
theorem rsl_L:RdSl K (rSlL K) bSlL:=by
 intro Y H x lo hi d1 z Q lv b1 e q;cases d1 with
 | lst a =>
  cases e;obtain⟨p,xs,rfl,hp,el⟩:=b1;exact⟨p,xs,rfl,.inl (.inl hp),fun r hr=>q _ _ (same_upd hr _) (res_new (el.cut lo hi) hr)⟩
 | fl a =>
  cases e;obtain⟨p,xs,rfl,hp,el⟩:=b1;exact⟨p,xs,rfl,hp.sq,fun r hr=>q _ _ (same_upd hr _) (res_new (el.cut lo hi) hr)⟩
 | _=>cases e
noncomputable def bSlT:D->Option Int->Option Int->Option Rz
 | .tup ds,lo,hi=>if HT.sIx ds.length 0 lo=0/\HT.sIx ds.length ds.length hi=ds.length then none else some (.tup (cutD ds lo hi),false)
 | _,_,_=>none
theorem rsl_T:RdSl K (rSlT K) bSlT:=by
 intro Y H x lo hi d1 z Q lv b1 e q;cases d1 with
 | tup a =>
  by_cases c:HT.sIx a.length 0 lo=0/\HT.sIx a.length a.length hi=a.length
  ·simp only[bSlT,if_pos c]at e;cases e
  ·simp only[bSlT,if_neg c]at e;cases e;obtain⟨p,xs,rfl,hp,el⟩:=b1;exact⟨p,xs,rfl,hp.sq,by rw[el.1];exact c,fun r hr=>q _ _ (same_upd hr _) (res_newT (el.cut lo hi) hr lv)⟩
 | _=>cases e
noncomputable def bSlS:D->Option Int->Option Int->Option Rz
 | .str z,lo,hi=>if z.length<=1000000 then some (.str (Txt.slice z lo hi),false) else none
 | _,_,_=>none
theorem rsl_S:RdSl K (fun x lo hi H Q=>∃z:Str,x=.str z/\z.length<=sizeLine/\Q (.str (Txt.slice z lo hi)) H) bSlS:=by
 intro Y H x lo hi d1 z Q lv b1 e q;cases d1 with
 | str a =>
  by_cases c:a.length<=1000000
  ·simp only[bSlS,if_pos c]at e;cases e;exact⟨a,b1,few c,q _ H (Same.refl H) (.str _)⟩
  ·simp only[bSlS,if_neg c]at e;cases e
 | _=>cases e
noncomputable def bSl:=orS bSlL (orS bSlT bSlS)
noncomputable def bLenQ:List D->Option Rz
 | [d]=>(d.seq).bind fun ds=>some (.int ds.length,false)
 | _=>none
theorem rc_lenQ:RdCB K (fun xs H Q=>∃p ys,xs=[.ref p]/\(SqL K H p ys∨SqT K H p ys)/\Q (.int ys.length) H) bLenQ:=by
 intro Y H xs ds z Q lv bs e q;cases bs with
 | nil=>cases e
 | cons b1 bs =>
  cases bs with
  | cons _ _=>cases e
  | nil =>
   obtain⟨es,e1,e⟩:=Option.bind_eq_some_iff.mp e;cases e;obtain⟨a,vs,rfl,sq,el⟩:=seq_ba b1 e1;refine⟨a,vs,rfl,sq,?_⟩;rw[el.1];exact q _ H (Same.refl H) (.int _)
noncomputable def bLenS:List D->Option Rz
 | [.str z]=>if z.length<=1000000 then some (.int z.length,false) else none
 | _=>none
theorem rc_lenS:RdCB K (fun xs H Q=>∃z:Str,xs=[.str z]/\z.length<=sizeLine/\Q (.int z.length) H) bLenS:=by
 intro Y H xs ds z Q lv bs e q;cases bs with
 | nil=>cases e
 | @cons v vs d ds b1 bs =>
  cases bs with
  | cons _ _=>cases d<;>cases e
  | nil =>
   cases d with
   | str a =>
    by_cases c:a.length<=1000000
    ·simp only[bLenS,if_pos c]at e;cases e;exact⟨a,by rw[show v=V.str a from b1],few c,q _ H (Same.refl H) (.int _)⟩
    ·simp only[bLenS,if_neg c]at e;cases e
   | _=>cases e
noncomputable def bLen:=orC bLenQ bLenS
noncomputable def bList:List D->Option Rz
 | [d]=>(d.seq).bind fun ds=>some (.lst ds,true)
 | _=>none
theorem rc_list:RdCB K (fun xs H Q=>∃p ys,xs=[.ref p]/\(SqL K H p ys∨SqT K H p ys)/\∀l,H l=none->Q (.ref l) (upd H l (.lst ys))) bList:=by
 intro Y H xs ds z Q lv bs e q;cases bs with
 | nil=>cases e
 | cons b1 bs =>
  cases bs with
  | cons _ _=>cases e
  | nil =>
   obtain⟨es,e1,e⟩:=Option.bind_eq_some_iff.mp e;cases e;obtain⟨a,vs,rfl,sq,el⟩:=seq_ba b1 e1;exact⟨a,vs,rfl,sq,fun r hr=>q _ _ (same_upd hr _) (res_new el hr)⟩
noncomputable def asBls:List D->Option (List Bool)
 | []=>some []
 | .bl b::r=>(asBls r).bind fun bs=>some (b::bs)
 | _=>none
theorem asBls_el:∀{ds:List D} {vs:List V} {bs:List Bool},El K Y H vs ds->asBls ds=some bs->vs=bs.map V.bl
 | [],vs,bs,el,e=>by cases e;exact el.unnil
 | d::r,vs,bs,el,e=>by
  obtain⟨v,t,rfl,da,el2⟩:=el.uncons;cases d with
  | bl b =>
   obtain⟨bs',e1,e⟩:=Option.bind_eq_some_iff.mp e;cases e;have h:=asBls_el el2 e1;rw[h,show v=V.bl b from da.ba];rfl
  | _=>cases e
noncomputable def bAll:List D->Option Rz
 | [.lst ds]=>(asBls ds).bind fun bs=>some (.bl (bs.all id),false)
 | _=>none
theorem rc_all:RdCB K (fun xs H Q=>∃(p:Addr) (bs:List Bool),xs=[.ref p]/\SqL K H p (bs.map V.bl)/\Q (.bl (bs.all id)) H) bAll:=by
 intro Y H xs ds z Q lv bs e q;cases bs with
 | nil=>cases e
 | @cons v vs d ds b1 bs =>
  cases bs with
  | cons _ _=>cases d<;>cases e
  | nil =>
   cases d with
   | lst a =>
    obtain⟨bs,e1,e⟩:=Option.bind_eq_some_iff.mp e;cases e;obtain⟨p,xs,rfl,hp,el⟩:=b1;obtain rfl:=asBls_el el e1;exact⟨p,bs,rfl,.inl (.inl hp),q _ H (Same.refl H) (.bl _)⟩
   | _=>cases e
noncomputable def isL:D->Bool
 | .lst _=>true
 | _=>false
theorem tyL {p:Addr} {x:D} (h:OA K Y H p x) (e:isL x=true):tyV K "list" (.ref p) H:=by
 cases x with
 | lst ds=>obtain⟨vs,h1,_⟩:=h;exact .inl ⟨rfl,vs,.inl (.inl h1)⟩
 | _=>cases e
theorem El.upd {p:Addr} {o:HO} (h:El K Y H vs ds) (hp:Y p):El K Y (L2.upd H p o) vs ds:=h.go (fun b u e n=>by
 have hb:b≠p:=fun z=>n (by rw[z];exact hp)
 rw[upd_ne hb];exact e) fun b z=>.inl z
theorem DA.upd {p:Addr} {o:HO} (h:DA K Y H v d) (hp:Y p):DA K Y (L2.upd H p o) v d:=h.go (fun b u e n=>by
 have hb:b≠p:=fun z=>n (by rw[z];exact hp)
 rw[upd_ne hb];exact e) fun b z=>.inl z
noncomputable def mAppend:D->List D->Option (D×D)
 | .lst xs,[y]=>if xs.length<1000000 then some (.non,.lst (xs++[y])) else none
 | _,_=>none
theorem rm_append:RdM K "list" rAppend isL mAppend:=⟨fun Y H p x h e=>tyL h e,fun Y H p x vs ds y x' Q hp ho el e q=>by
 cases x with
 | lst xs =>
  cases ds with
  | nil=>cases e
  | cons d ds =>
   cases ds with
   | cons _ _=>cases e
   | nil =>
    by_cases c:xs.length<1000000
    ·simp only[mAppend,if_pos c]at e;cases e;obtain⟨ws,h1,h2⟩:=ho;obtain⟨v,r,rfl,da,el⟩:=el.uncons;obtain rfl:=el.unnil;exact⟨p,ws,v,rfl,rfl,h1,by rw[h2.1];exact few (by omega),q .non _ .non ⟨_,upd_same,(h2.app (El.one da)).upd hp⟩⟩
    ·simp only[mAppend,if_neg c]at e;cases e
 | _=>cases e⟩
noncomputable def mPopAt:D->List D->Option (D×D)
 | .lst xs,[.int i]=>if -(2 ^ 63)<=i/\i<2 ^ 63 then(seqIndex? i xs.length).bind fun k=>(xs[k]?).bind fun y=>some (y,.lst (xs.eraseIdx k)) else none
 | _,_=>none
theorem rm_popAt:RdM K "list" rPopAt isL mPopAt:=⟨fun Y H p x h e=>tyL h e,fun Y H p x vs ds y x' Q hp ho el e q=>by
 cases x with
 | lst xs =>
  cases ds with
  | nil=>cases e
  | cons d ds =>
   cases d with
   | int i =>
    cases ds with
    | cons _ _=>cases e
    | nil =>
     by_cases c:-(2 ^ 63)<=i/\i<2 ^ 63
     ·simp only[mPopAt,if_pos c]at e;obtain⟨k,e1,e⟩:=Option.bind_eq_some_iff.mp e;obtain⟨y',e2,e⟩:=Option.bind_eq_some_iff.mp e;cases e;obtain⟨ws,h1,h2⟩:=ho;obtain⟨v,r,rfl,da,el⟩:=el.uncons;obtain rfl:=el.unnil;obtain rfl:=(show v=V.int i from da.ba);obtain⟨u,g1,g2⟩:=h2.at e2;exact⟨p,ws,i,k,u,rfl,rfl,h1,c.1,c.2,by rw[h2.1];exact e1,g1,q u _ (g2.upd hp) ⟨_,upd_same,(h2.erase k).upd hp⟩⟩
     ·simp only[mPopAt,if_neg c]at e;cases e
   | _=>cases ds<;>cases e
 | _=>cases e⟩
noncomputable def bSetL:D->D->D->Option D
 | .lst xs,.int k,v=>(ixN xs.length k).bind fun j=>some (.lst (xs.set j v))
 | _,_,_=>none
theorem rset_list:RdSet K rSetL bSetL:=by
 intro Y H p x k v dk dv x' Q hp ho bk da e q;cases x with
 | lst xs =>
  cases dk with
  | int i =>
   obtain⟨j,e1,e⟩:=Option.bind_eq_some_iff.mp e;cases e;obtain⟨ws,h1,h2⟩:=ho;exact⟨p,ws,i,j,rfl,bk,h1,by rw[h2.1];exact e1,q _ ⟨_,upd_same,(h2.set da j).upd hp⟩⟩
  | _=>cases e
 | _=>cases dk<;>cases e
end
end VF
namespace VF
open PySem PySem.Spec PyProof.Rows L2
section
variable {X:Cx} {K:PySem.W.Frag} {Y:AS} {H:Hp} {v:V} {d:D} {vs:List V} {ds:List D}
noncomputable def rAddA (K:PySem.W.Frag):R2:=fun x y H Q=>(rI0 fun i j=>.int (i+j)) x y H Q∨((∃i j,x=.str i/\y=.str j/\i.length+j.length<=sizeLine/\Q (.str (i++j)) H)∨(rCat x y H Q∨rCatT K x y H Q))
theorem pI (h:X.K=K):OpR X (binaryOp .Add) (rAddA K):=op_add.or (op_add_str.or (op_cat.or (h ▸ op_catT)))
theorem pV:RdOp K (rAddA K) bAdd:=ro_addI.or (ro_addS.or (ro_cat.or ro_catT))
noncomputable def rMulA:R2:=fun x y H Q=>(rI CMul fun i j=>.int (i*j)) x y H Q∨(∃(a:Str) (n:Int),x=.str a/\y=.int n/\MulOk a n/\Q (.str (Txt.mul a n)) H)
theorem op_mulA:OpR X (binaryOp .Mult) rMulA:=op_mul.or op_mul_str
theorem ro_mulA:RdOp K rMulA bMul:=ro_mulI.or ro_mulS
noncomputable def rLtA:R2:=fun x y H Q=>(rI0 fun i j=>.bl (decide (i<j))) x y H Q∨(∃i j,x=.str i/\y=.str j/\Q (.bl (decide (i.cps.toList<j.cps.toList))) H)
theorem op_ltA:OpR X (compareOp .Lt) rLtA:=op_lt.or op_lt_str
theorem ro_ltA:RdOp K rLtA bLt:=ro_ltI.or ro_ltS
noncomputable def rInA (K:PySem.W.Frag):R2:=fun x y H Q=>(∃i j,x=.str i/\y=.str j/\Q (.bl (!(Builtin.Str.occurrences j i 0 j.length 1).isEmpty)) H)∨rIn K false x y H Q
theorem op_inA (h:X.K=K):OpR X (compareOp .In) (rInA K):=op_in_str.or (h ▸ op_in_seq)
theorem ro_inA:RdOp K (rInA K) bIn:=ro_inS.or (ro_inF false)
noncomputable def bEq:=bEqS false
theorem op_eqA (_:X.K=K) (_:X.A.units+64<cLine):OpR X (compareOp .Eq) rEq:=op_eq
theorem ro_eqA:RdOp K rEq bEq:=ro_eqS
noncomputable def bNeE:D->D->Option Rz
 | .lst xs,.lst []=>some (.bl (!xs.isEmpty),false)
 | _,_=>none
noncomputable def rNeE (K:PySem.W.Frag):R2:=fun x y H Q=>∃(a b:Addr) (xs:List V),x=.ref a/\y=.ref b/\SqL K H a xs/\SqL K H b []/\Q (.bl (!xs.isEmpty)) H
theorem ro_neE:RdOp K (rNeE K) bNeE:=by
 intro Y H x y d1 d2 z Q lv b1 b2 e q;cases d1 with
 | lst xs =>
  cases d2 with
  | lst ys =>
   cases ys with
   | nil =>
    cases e;obtain⟨p,ws,rfl,hp,el⟩:=b1;obtain⟨p2,zs,rfl,hp2,el2⟩:=b2;obtain rfl:=el2.unnil;refine⟨p,p2,ws,rfl,rfl,.inl (.inl hp),.inl (.inl hp2),?_⟩;have e:ws.isEmpty=xs.isEmpty:=by
     cases ws with
     | nil=>cases xs with
      | nil=>rfl
      | cons _ _=>cases el.1
     | cons _ _=>cases xs with
      | nil=>cases el.1
      | cons _ _=>rfl
    rw[e];exact q _ H (Same.refl H) (.bl _)
   | cons _ _=>cases e
  | _=>cases e
 | _=>cases d2<;>cases e
noncomputable def bNe:=orD (bEqS true) bNeE
noncomputable def rNeA (K:PySem.W.Frag):R2:=fun x y H Q=>rNe x y H Q∨rNeE K x y H Q
theorem op_neA (h:X.K=K) (hu:X.A.units+64<cLine):OpR X (compareOp .NotEq) (rNeA K):=op_ne.or (by subst h;exact op_neE (by omega))
theorem ro_neA:RdOp K (rNeA K) bNe:=ro_neS.or ro_neE
noncomputable def rSlA (K:PySem.W.Frag):V->Option Int->Option Int->Hp->VK->Prop:=fun x lo hi H Q=>rSlL K x lo hi H Q∨(rSlT K x lo hi H Q∨(∃z:Str,x=.str z/\z.length<=sizeLine/\Q (.str (Txt.slice z lo hi)) H))
theorem sl_any (h:X.K=K):SlR X (rSlA K):=SlR.or (h ▸ sl_list) (SlR.or (h ▸ sl_tup) sl_str)
theorem rsl_any:RdSl K (rSlA K) bSl:=RdSl.or rsl_L (RdSl.or rsl_T rsl_S)
noncomputable def rLenA (K:PySem.W.Frag):List V->Hp->VK->Prop:=fun xs H Q=>(∃p ys,xs=[.ref p]/\(SqL K H p ys∨SqT K H p ys)/\Q (.int ys.length) H)∨(∃z:Str,xs=[.str z]/\z.length<=sizeLine/\Q (.int z.length) H)
theorem call_lenA (h:X.K=K):CallR X (.builtin "len") (rLenA K):=CallR.or (h ▸ call_len_seq) call_len_str
theorem rc_len:RdCB K (rLenA K) bLen:=rc_lenQ.or rc_lenS
theorem el_sgn (z:Str):El K Y H (sgn z) (sgnD z):=by
 refine⟨by simp[sgn,sgnD],fun i v d h1 h2=>?_⟩
 unfold sgn at h1;unfold sgnD at h2;rw[List.getElem?_map]at h1 h2;obtain⟨c,e1,rfl⟩:=Option.map_eq_some_iff.mp h1;rw[e1]at h2;obtain rfl:=Option.some.inj h2;exact .str _
noncomputable def bListS:List D->Option Rz
 | [.str z]=>if z.cps.size<=1000000 then some (.lst (sgnD z),true) else none
 | _=>none
noncomputable def rListS:List V->Hp->VK->Prop:=fun xs H Q=>∃z:Str,xs=[.str z]/\z.cps.size<=sizeLine/\∀l,H l=none->Q (.ref l) (upd H l (.lst (sgn z)))
theorem rc_listS:RdCB K rListS bListS:=by
 intro Y H xs ds z Q lv bs e q;cases bs with
 | nil=>cases e
 | @cons v vs d ds b1 bs =>
  cases bs with
  | cons _ _=>cases d<;>cases e
  | nil =>
   cases d with
   | str a =>
    by_cases c:a.cps.size<=1000000
    ·simp only[bListS,if_pos c]at e;cases e;exact⟨a,by rw[show v=V.str a from b1],few c,fun r hr=>q _ _ (same_upd hr _) (res_new (el_sgn a) hr)⟩
    ·simp only[bListS,if_neg c]at e;cases e
   | _=>cases e
noncomputable def bListA:=orC bList bListS
noncomputable def rListA (K:PySem.W.Frag):List V->Hp->VK->Prop:=fun xs H Q=>(∃p ys,xs=[.ref p]/\(SqL K H p ys∨SqT K H p ys)/\∀l,H l=none->Q (.ref l) (upd H l (.lst ys)))∨rListS xs H Q
theorem call_listA (h:X.K=K) (hc:X.calm=true):CallR X (.type "list") (rListA K):=CallR.or (h ▸ call_list_of) (call_list_text hc)
theorem rc_listA:RdCB K (rListA K) bListA:=rc_list.or rc_listS
noncomputable def tyN:D->String
 | .non=>"NoneType"
 | .bl _=>"bool"
 | .int _=>"int"
 | .str _=>"str"
 | .tup _=>"tuple"
 | .lst _=>"list"
 | .fl _=>"list"
 | .dk _=>"dict"
 | .dt _=>"dict"
 | .ty _=>"type"
noncomputable def isiB (n T:String):Bool:=n == T||(n == "bool"&&T == "int")
theorem isi_ok:∀n∈["NoneType","bool","int","str","tuple","list","dict"],∀T∈["bool","int","str","tuple","list","dict"],
  (if (Value.type n == Value.type T)=true then some true else if PySem.W.kitMeta T=true then(fastBuiltinMro n).map (·.contains (Value.type T)) else none)=some (isiB n T):=by decide +kernel
noncomputable def bIsi:List D->Option Rz
 | [d,.ty T]=>if (["bool","int","str","tuple","list","dict"].contains T&&tyN d != "type")=true then some (.bl (isiB (tyN d) T),false) else none
 | _=>none
noncomputable def bIsinst:=bIsi
noncomputable def rIsi (K:PySem.W.Frag):List V->Hp->VK->Prop:=fun xs H Q=>∃(Y:AS) (x:V) (d:D) (T:String),xs=[x,.ty T]/\BA K Y H x d/\(["bool","int","str","tuple","list","dict"].contains T&&tyN d != "type")=true/\Q (.bl (isiB (tyN d) T)) H
theorem rc_isinst:RdCB K (rIsi K) bIsinst:=by
 intro Y H xs ds z Q lv bs e q;cases bs with
 | nil=>cases e
 | @cons v vs d ds b1 bs =>
  cases bs with
  | nil=>cases e
  | @cons v2 vs2 d2 ds2 b2 bs =>
   cases bs with
   | cons _ _=>cases d2<;>cases e
   | nil =>
    cases d2 with
    | ty T =>
     by_cases c:(["bool","int","str","tuple","list","dict"].contains T&&tyN d != "type")=true
     ·simp only[bIsinst,bIsi,if_pos c]at e;cases e;exact⟨Y,v,d,T,by rw[show v2=V.ty T from b2],b1,c,q _ H (Same.refl H) (.bl _)⟩
     ·simp only[bIsinst,bIsi,if_neg c]at e;cases e
    | _=>cases e
theorem call_isinstA (h:X.K=K):CallR X (.builtin "isinstance") (rIsi K):=by
 subst h;intro pins s σ H xs us Q I rv h;obtain⟨Y,x,d,T,rfl,b1,c,q⟩:=h;obtain⟨u,w',rfl,rx,ry⟩:=vals2 rv;cases (show w'=Value.type T from ry);rw[Bool.and_eq_true]at c;have hT:T∈["bool","int","str","tuple","list","dict"]:=List.contains_iff_mem.mp c.1;have fin:∀tk,EP X pins σ Q (.bool (isiB (tyN d) T)) { s with toks:=tk }:=fun tk=>⟨.bl _,H,I.tok tk,rfl,q⟩;have ko:∀n∈["NoneType","bool","int","str","tuple","list","dict"],tyN d=n->PySem.W.kitOne X.K (.type n) (.type T)=some (isiB (tyN d) T):=fun n hn e=>by
  rw[e];exact kit_ty (isi_ok n hn T hT)
 cases d with
 | non =>
  obtain rfl:=(show x=V.non from b1);exact isinst_ok I rx .non (ko "NoneType" (by decide) rfl) fin
 | bl b =>
  obtain rfl:=(show x=V.bl b from b1);exact isinst_ok I rx (.bl b) (ko "bool" (by decide) rfl) fin
 | int i =>
  obtain rfl:=(show x=V.int i from b1);exact isinst_ok I rx (.int i) (ko "int" (by decide) rfl) fin
 | str z =>
  obtain rfl:=(show x=V.str z from b1);exact isinst_ok I rx (.str z) (ko "str" (by decide) rfl) fin
 | ty n=>exact absurd c.2 (by simp[tyN])
 | lst ds =>
  obtain⟨a,vs,rfl,h1,_⟩:=b1;exact isinst_ok I rx (.lst h1) (ko "list" (by decide) rfl) fin
 | fl ds =>
  obtain⟨a,vs,rfl,h1,_⟩:=b1;cases (show u=Value.ref a from rx);obtain⟨its,_,pl,_⟩:=I.list h1.sq;obtain⟨o,ho,hc,_⟩:=pl.isList;exact PySem.W.kia_one PySem.W.kitx_list I.kIn ⟨o,ho,hc⟩ (ko "list" (by decide) rfl) (fun z=>nomatch z) fin
 | tup ds =>
  obtain⟨a,vs,rfl,h1,_⟩:=b1;cases (show u=Value.ref a from rx);obtain⟨its,_,pl,_⟩:=I.tuple h1.sq;obtain⟨o,ho,hc,_⟩:=pl;exact PySem.W.kia_one PySem.W.kitx_tuple I.kIn ⟨o,ho,hc⟩ (ko "tuple" (by decide) rfl) (fun z=>nomatch z) fin
 | dk ds =>
  obtain⟨a,vs,rfl,h1,_⟩:=b1;exact isinst_ok I rx (.dK h1) (ko "dict" (by decide) rfl) fin
 | dt ds =>
  obtain⟨a,ep,vs,rfl,_,h1,_⟩:=b1;exact isinst_ok I rx (.dT h1) (ko "dict" (by decide) rfl) fin
theorem list_extend_tup (l:Addr) (its:Array Value) (n:Nat) (b:Addr) (more:Array Value) (m:Nat) (dd:Option Addr) (sl:Array (Option Value)) (h0:¬(!its.isEmpty&&Builtin.List.listTooLong (its.size+more.size))=true) (h1:its.size<=sizeLine) (h2:its.size+more.size<=sizeLine+1) :
  Meets (Builtin.«list.extend» ⟨[.ref l,.ref b],[]⟩) (fun _ R s=>s.heap.get? l=some { cls:=.type "list",dict:=none,data:=.seq its n,slots:=#[] }/\s.heap.get? b=some { cls:=.type "tuple",dict:=dd,data:=.seq more m,slots:=sl }/\R (.ok (.ret Value.none)) { s with heap:=s.heap.update l (Obj.mapSeq fun x=>x++more),toks:=s.toks }) :=
 .of_wp fun prog w A R s0 hh=>by
  obtain⟨hp,gg,dp,tks,oo⟩:=s0;obtain⟨hl,hb,hR⟩:=hh;have a1:=AutoSeq1.idx_int;have a2:=AutoSeq1.sub_tuple_tuple;have a3:=AutoSeq1.sub_list_list;have a4:=AutoSeq1.sub_tuple_list;have a5:=AutoSeq1.sub_list_tuple;have fits:(its++more).size<=sizeLine+1:=by
   rw[Array.size_append];exact h2
  wp_walk using (wpAny_updateSeq hl rfl (hz:=h1) (_hz':=fits)),wpAny_loadPart' hl,wpAny_loadPart' hb
  exact⟨_,rfl,hR⟩
noncomputable def rExtT (K:PySem.W.Frag):V->List V->Hp->VK->Prop:=fun x vs H Q=>∃l b xs zs,x=.ref l/\vs=[.ref b]/\H l=some (.lst xs)/\SqT K H b zs/\xs.length+zs.length<=sizeLine/\Q .non (upd H l (.lst (xs++zs)))
theorem mt_extT (h:X.K=K):MtM X "list.extend" (rExtT K):=by
 subst h;intro pins s σ H x vs v us Q I rx rv h;obtain⟨l,b,xs,zs,rfl,rfl,hH,hB,hz,q⟩:=h;cases rx;obtain⟨u,rfl,ru⟩:=rv.one;cases ru;obtain⟨z,its,n,r,hl,e⟩:=I.lstM hH;obtain⟨its2,r2,pl,hz2⟩:=I.tuple hB;obtain⟨⟨c2,dd2,d2,sl2⟩,ho2,hc2,n2,hd2⟩:=id pl;obtain rfl:c2=.type "tuple":=hc2;obtain rfl:d2=.seq its2.toArray n2:=hd2;have hl2:=r2.length;have hsz:its.toArray.size+its2.toArray.size<=sizeLine:=by rw[List.size_toArray,List.size_toArray];omega
 have hlong:¬ (!its.toArray.isEmpty&&Builtin.List.listTooLong (its.toArray.size+its2.toArray.size))=true:=by
  rw[notLongL hsz,Bool.and_false];exact Bool.false_ne_true
 refine call_meets F.slot_list_extend ⟨_,e,rfl⟩ F.entry_list_extend (F.args_list_extend_2 _ _)
  (list_extend_tup l its.toArray n b its2.toArray n2 dd2 sl2 hlong (by rw[List.size_toArray];omega) (by omega)) ⟨e,ho2,?_⟩
 refine⟨.non,_,I.lset (its':=its++its2) hH e (by simp) (r.append r2) ?_,rfl,q⟩
 rw[List.length_append];omega
noncomputable def rExtA (K:PySem.W.Frag):V->List V->Hp->VK->Prop:=fun x vs H Q=>rExtend x vs H Q∨rExtT K x vs H Q
theorem mt_extendA (h:X.K=K) (_:X.calm=true):MtM X "list.extend" (rExtA K):=by
 intro pins s σ H x vs v us Q I rx rv hh;rcases hh with hh|hh
 ·exact mt_extend pins s σ H x vs v us Q I rx rv hh
 ·exact mt_extT h pins s σ H x vs v us Q I rx rv hh
noncomputable def mExtend:D->List D->Option (D×D)
 | .lst xs,[.lst ys]=>if xs.length+ys.length<=1000000 then some (.non,.lst (xs++ys)) else none
 | .lst xs,[.tup ys]=>if xs.length+ys.length<=1000000 then some (.non,.lst (xs++ys)) else none
 | _,_=>none
theorem rm_extend:RdM K "list" (rExtA K) isL mExtend:=⟨fun Y H p x h e=>tyL h e,fun Y H p x vs ds y x' Q hp ho el e q=>by
 cases x with
 | lst xs =>
  cases ds with
  | nil=>cases e
  | cons d ds =>
   cases ds with
   | cons _ _=>cases d<;>cases e
   | nil =>
    obtain⟨ws,h1,h2⟩:=ho;obtain⟨v,r,rfl,da,el⟩:=el.uncons;obtain rfl:=el.unnil;cases d with
    | lst ys =>
     by_cases c:xs.length+ys.length<=1000000
     ·simp only[mExtend,if_pos c]at e;cases e;cases da with
      | @lst a us _ g0 g1 g2 g3=>exact .inl ⟨p,a,ws,us,rfl,rfl,h1,g1,by rw[h2.1,g2];exact few c,q .non _ .non ⟨_,upd_same,(h2.app ⟨g2,g3⟩).upd hp⟩⟩
     ·simp only[mExtend,if_neg c]at e;cases e
    | tup ys =>
     by_cases c:xs.length+ys.length<=1000000
     ·simp only[mExtend,if_pos c]at e;cases e;cases da with
      | @tup a us _ g1 g2 g3=>exact .inr ⟨p,a,ws,us,rfl,rfl,h1,g1.sq,by rw[h2.1,g2];exact few c,q .non _ .non ⟨_,upd_same,(h2.app ⟨g2,g3⟩).upd hp⟩⟩
     ·simp only[mExtend,if_neg c]at e;cases e
    | _=>cases e
 | _=>cases e⟩
noncomputable def iAny (K:PySem.W.Frag) (tl:TE):TI:=fun σ H R=>iList K tl σ H R∨(iTup K tl σ H R∨iStr tl σ H R)
theorem pi_any {tg l:Expr} {tl:TE} (h:X.K=K) (hl:PE X l tl):PI X tg l (iAny K tl):=by
 subst h;intro pins s σ H R I hh;rcases hh with hh|hh|hh
 ·exact pi_list hl pins s σ H R I hh
 ·exact pi_tup hl pins s σ H R I hh
 ·exact pi_str hl pins s σ H R I hh
noncomputable def fIA (fe:FE):FI:=fun st=>match fIL fe st with
 | some z=>some z
 | none=>match fIT fe st with
  | some z=>some z
  | none=>fIS fe st
theorem ri_any {te:TE} {fe:FE} (h:RdE K te fe):RdI K (iAny K te) (fIA fe):=by
 intro st σ H O Z R E items st' e q;unfold fIA at e;split at e
 ·rename_i z ez
  cases e;exact .inl (ri_list h st σ H O Z R E items st' ez q)
 ·split at e
  ·rename_i z ez
   cases e;exact .inr (.inl (ri_tup h st σ H O Z R E items st' ez q))
  ·exact .inr (.inr (ri_str h st σ H O Z R E items st' e q))
end
end VF
namespace VF
open PySem PySem.Spec PyProof.Rows L2
section
variable {X:Cx} {K:PySem.W.Frag}
theorem boot_reversed:bootBuiltins "reversed"=some (.type "reversed"):=by decide +kernel
end
end VF
namespace VF
open PySem PySem.Spec PyProof.Rows L2
section
variable {X:Cx} {K:PySem.W.Frag} {Y:AS} {H:Hp} {v:V} {d:D} {vs:List V} {ds:List D}
noncomputable def leS (a b:Str):Prop:=¬ b.cps.toList<a.cps.toList
noncomputable instance (a b:Str):Decidable (leS a b):=by unfold leS;infer_instance
theorem leS_anti {a b:Str} (h:leS a b) (g:leS b a):a=b:=by
 unfold leS at *;rw[List.not_lt]at *;have e:=List.le_antisymm h g;cases a;cases b;exact congrArg Str.mk (Array.toList_inj.mp e)
theorem boot_sorted:bootBuiltins "sorted"=some (.builtin "sorted"):=by decide +kernel
end
end VF
namespace VF
open PySem L2
section
variable {K:PySem.W.Frag}
theorem pe_ty {X:Cx} {x:Str} {T:String} {pos:Pos} (hg:Gl X x) (hm:X.mg x=none) (hv:bootBuiltins x=some (.type T)) (hn:x≠"__name__":=by decide) (hd:(x == ("__debug__":Str))=false:=by decide):PE X (.Name x pos) (tC (.ty T)):=pe_bltn hg hm hv rfl hn hd
noncomputable def spLaw (K:PySem.W.Frag):Sp:=fun vs H Q _=>∃(a:Addr) (ns:List Int),vs=[.ref a]/\SqL K H a (ns.map V.int)/\ns.length<=63/\∀H',Q (.bl true) H'
end
end VF
namespace VF
open PySem L2
section
variable {st st1 st2 st3 s s1 s2:En} {r r1 r2:Rs} {d d1 d2 x y x':D} {ds es:List D} {rs:List Rs} {z:Rz} {o:Ot} {i k n m:Nat} {F G B:FS} {fa fb fe fi':FE} {fr:FA} {f g:FT} {fi:FI} {fg:FG} {caps:List Nat}
theorem rM {a:Option Ot} (h:F st=some (.nx s)) (h2:G s=a):sSeq F G st=a:=by simp only[sSeq,h,Option.bind_some];exact h2
theorem seq_rt (h:F st=some (.rt r s)):sSeq F G st=some (.rt r s):=by simp only[sSeq,h,Option.bind_some]
theorem if_t {a:Option Ot} (h:f st=some (true,s)) (h2:F s=a):sIf f F G st=a:=by simp only[sIf,h,Option.bind_some,if_true];exact h2
theorem if_f {a:Option Ot} (h:f st=some (false,s)) (h2:G s=a):sIf f F G st=a:=by simp only[sIf,h,Option.bind_some,Bool.false_eq_true,if_false];exact h2
theorem set_d (h:fe st=some (.d x,s)) (h2:fPut i (.v x) s=some s1):sSet fe i st=some (.nx s1):=by simp only[sSet,h,Option.bind_some,h2]
theorem set_f (h:fe st=some (.f x,s)) (h2:fPut i (.o x) s=some s1):sSet fe i st=some (.nx s1):=by simp only[sSet,h,Option.bind_some,h2]
theorem drop_ev (h:fe st=some (r,s)):sDrop fe st=some (.nx s):=by simp only[sDrop,h,Option.bind_some]
theorem ret_ev (h:fe st=some (r,s)):sRet fe st=some (.rt r s):=by simp only[sRet,h,Option.bind_some]
theorem rL {b:D->D->Option Rz} (h1:fa st=some (r1,s1)) (h2:fb s1=some (r2,s2)) (h3:cont s2 r1=some d1) (h4:cont s2 r2=some d2) (h5:b d1 d2=some z) (hz:mk z=r:=by rfl):fOp b fa fb st=some (r,s2):=by
 simp only[fOp,h1,h2,h3,h4,h5,hz,Option.bind_some]
theorem rG (h1:fa st=some (r,s1)) (h2:fr s1=some (rs,s2)):rZ fa fr st=some (r::rs,s2):=by simp only[rZ,h1,h2,Option.bind_some]
theorem cb_ev {b:List D->Option Rz} (h1:fr st=some (rs,s1)) (h2:contAll s1 rs=some ds) (h3:b ds=some z) (hz:mk z=r:=by rfl):fCB b fr st=some (r,s1):=by simp only[fCB,h1,h2,h3,hz,Option.bind_some]
theorem call_ev {b:List D->Option Rz} (h1:fr st=some (rs,s1)) (h2:escAll rs s1=some (ds,s2)) (h3:b ds=some z) (hz:mk z=r:=by rfl):fCall b fr st=some (r,s2):=by simp only[fCall,h1,h2,h3,hz,Option.bind_some]
theorem callS_ev {b:List D->Option Rz} (h1:fr st=some (rs,s1)) (h2:contAll s1 rs=some ds) (h3:b ds=some (d,false)) (h4:d.isSc=true):fCallS b fr st=some (.d d,s1):=by
 simp only[fCallS,h1,h2,h3,Option.bind_some,h4];rfl
theorem io_ev {b:D->List D->Option (Rz×D)} {t t0:Sl} {x0:D} (h0:st[i]?=some t0) (h00:t0.ow=some x0) (h1:fr st=some (rs,s1)) (h2:escAll rs s1=some (ds,s2)) (h3:s2[i]?=some t) (h4:t.ow=some x) (h5:b x ds=some (z,x')) (hz:mk z=r:=by rfl) (h6:s2.set i (t.put x')=st3:=by rfl):fIO b i fr st=some (r,st3):=by
 simp only[fIO,h0,h00,h1,h2,h3,h4,h5,h6,hz,Option.bind_some]
theorem m_ev {ok:D->Bool} {mm:D->List D->Option (D×D)} {t t0:Sl} {x0:D} (h0:st[i]?=some t0) (h00:t0.ow=some x0) (hk:ok x0=true) (h1:fr st=some (rs,s1)) (h2:escAll rs s1=some (ds,s2)) (h3:s2[i]?=some t) (h4:t.ow=some x) (h5:mm x ds=some (y,x')) (h6:s2.set i (t.put x')=st3:=by rfl):fM ok mm i fr st=some (.d y,st3):=by
 simp only[fM,h0,h00,hk,h1,h2,h3,h4,h5,h6,Option.bind_some,if_true]
theorem pN {c:Bool} (h:fe st=some (r,s)) (h2:tru s r=some c):fTest fe st=some (c,s):=by simp only[fTest,h,h2,Option.bind_some]
theorem not_ev {c:Bool} (h:f st=some (c,s)):fNotT f st=some (!c,s):=by simp only[fNotT,h,Option.bind_some]
theorem and_t {a:Option (Bool×En)} (h:f st=some (true,s)) (h2:g s=a):fAndT f g st=a:=by simp only[fAndT,h,Option.bind_some,if_true];exact h2
theorem and_f (h:f st=some (false,s)):fAndT f g st=some (false,s):=by simp only[fAndT,h,Option.bind_some,Bool.false_eq_true,if_false]
theorem or_f {a:Option (Bool×En)} (h:f st=some (false,s)) (h2:g s=a):fOrT f g st=a:=by simp only[fOrT,h,Option.bind_some,Bool.false_eq_true,if_false];exact h2
theorem andV_t {a:Option (Rs×En)} (h:fa st=some (r,s)) (h1:tru s r=some true) (h2:fb s=a):fAndV fa fb st=a:=by simp only[fAndV,h,h1,Option.bind_some,if_true];exact h2
theorem comp_ev {fc:FT} (h1:fi st=some (ds,s1)) (h2:(capsOk caps s1.length&&decide (ds.length<=1000000))=true) (h3:compL fg fc fe k ds (blkE k caps s1)=some (es,s2)) (h4:wb caps (s2.drop k) s1=st3:=by rfl):fComp k caps fi fg fc fe st=some (.f (.lst es),st3):=by
 simp only[fComp,h1,Option.bind_some];rw[if_pos h2,h3,← h4];rfl
theorem for_ev (h1:fi st=some (ds,s1)) (h2:sForL fg B ds s1=some o):sFor fi fg B st=some o:=by simp only[sFor,h1,Option.bind_some];exact h2
theorem body_ev (h0:ds.length=m) (h1:F (startE n ds)=some o) (h2:fin o=some z):bodyV F n m ds=some z:=by
 simp only[bodyV,if_pos h0,h1,Option.bind_some];exact h2
theorem bodyIO_ev {w:Rz×D} (h0:ds.length+1=m) (h1:F (startI n x ds)=some o) (h2:finIO o=some w):bodyIO F n m x ds=some w:=by
 simp only[bodyIO,if_pos h0,h1,Option.bind_some];exact h2
end
end VF
namespace VF
open PySem L2
section
variable {st s s1 s2 s3:En} {r r1:Rs} {rs:List Rs} {d d0 d1:D} {ds:List D} {z:Rz} {fe fo:FE} {fa:FA} {fl fh:FO}
theorem rng1_ev {j:Int} (h1:fa st=some (rs,s1)) (h2:contAll s1 rs=some [.int j]) (h3:-(2 ^ 62)<=j/\j<2 ^ 62):fIR1 fa st=some (rng 0 j.toNat,s1):=by
 simp only[fIR1,h1,h2,Option.bind_some,oneI];rw[if_pos h3]
theorem sl_ev {r':Rs} {lo hi:Option Int} {b:D->Option Int->Option Int->Option Rz} (h1:fe st=some (r,s1)) (h2:fl s1=some (lo,s2)) (h3:fh s2=some (hi,s3)) (h4:cont s3 r=some d) (h5:b d lo hi=some z) (hz:mk z=r':=by rfl):fSl b fe fl fh st=some (r',s3):=by
 simp only[fSl,h1,h2,h3,h4,h5,hz,Option.bind_some]
theorem il_ev (h1:fe st=some (r,s1)) (h2:esc r s1=some (.lst ds,s2)):fIA fe st=some (ds,s2):=by
 have:fIL fe st=some (ds,s2):=by simp only[fIL,h1,h2,Option.bind_some,D.its]
 unfold fIA;rw[this]
theorem tup_ev (h1:fa st=some (rs,s1)) (h2:escAll rs s1=some (ds,s2)) (h3:ds.length<=1000000):fTup fa st=some (.d (.tup ds),s2):=by
 simp only[fTup,h1,h2,Option.bind_some];rw[if_pos h3]
end
end VF
namespace VF
open PySem L2
section
variable {K:PySem.W.Frag}
noncomputable def b1 (g:D->Option D):List D->Option Rz
 | [d]=>(g d).map fun r=>(r,false)
 | _=>none
noncomputable def b2 (g:D->D->Option D):List D->Option Rz
 | [d,d']=>(g d d').map fun r=>(r,false)
 | _=>none
theorem rc_one {r:List V->Hp->VK->Prop} {g:D->Option D} (h:∀(Y:AS) (H:Hp) (v:V) (d o:D) (Q:VK),BA K Y H v d->g d=some o->(∀u,DA K Y H u o->Q u H)->r [v] H Q):RdCB K r (b1 g):=by
 intro Y H xs ds z Q lv bs e q;cases bs with
 | nil=>cases e
 | @cons v vs d ds c1 bs =>
  cases bs with
  | cons _ _=>cases e
  | nil =>
   obtain⟨o,eo,rfl⟩:=Option.map_eq_some_iff.mp e;exact h Y H v d o Q c1 eo fun u hu=>q u H (Same.refl H) hu
theorem rc_two {r:List V->Hp->VK->Prop} {g:D->D->Option D} (h:∀(Y:AS) (H:Hp) (v w:V) (d d' o:D) (Q:VK),BA K Y H v d->BA K Y H w d'->g d d'=some o->(∀u,DA K Y H u o->Q u H)->r [v,w] H Q):RdCB K r (b2 g):=by
 intro Y H xs ds z Q lv bs e q;cases bs with
 | nil=>cases e
 | @cons v vs d ds c1 bs =>
  cases bs with
  | nil=>cases e
  | @cons w ws d' ds' c2 bs =>
   cases bs with
   | cons _ _=>cases e
   | nil =>
    obtain⟨o,eo,rfl⟩:=Option.map_eq_some_iff.mp e;exact h Y H v w d d' o Q c1 c2 eo fun u hu=>q u H (Same.refl H) hu
noncomputable def gAbs:D->Option D
 | .int i=>some (.int (if i<0 then -i else i))
 | _=>none
theorem rc_abs:RdCB K (fun xs H Q=>∃i,xs=[.int i]/\Q (.int (if i<0 then -i else i)) H) (b1 gAbs):=rc_one fun Y H v d o Q c e q=>by
 cases d with
 | int i=>cases e;exact⟨i,by rw[show v=V.int i from c],q _ (.int _)⟩
 | _=>cases e
noncomputable def gMax:D->D->Option D
 | .int i,.int j=>some (.int (if j > i then j else i))
 | _,_=>none
theorem rc_max2:RdCB K (fun xs H Q=>∃i j,xs=[.int i,.int j]/\Q (.int (if j > i then j else i)) H) (b2 gMax):=rc_two fun Y H v w d d' o Q c c' e q=>by
 cases d with
 | int i =>
  cases d' with
  | int j=>cases e;exact⟨i,j,by rw[show v=V.int i from c,show w=V.int j from c'],q _ (.int _)⟩
  | _=>cases e
 | _=>cases e
noncomputable def gMin:D->D->Option D
 | .int i,.int j=>some (.int (if j<i then j else i))
 | _,_=>none
theorem rc_min2:RdCB K (fun xs H Q=>∃i j,xs=[.int i,.int j]/\Q (.int (if j<i then j else i)) H) (b2 gMin):=rc_two fun Y H v w d d' o Q c c' e q=>by
 cases d with
 | int i =>
  cases d' with
  | int j=>cases e;exact⟨i,j,by rw[show v=V.int i from c,show w=V.int j from c'],q _ (.int _)⟩
  | _=>cases e
 | _=>cases e
noncomputable def gInt:D->Option D
 | .int i=>some (.int i)
 | .bl k=>some (.int (if k then 1 else 0))
 | _=>none
theorem rc_int1:RdCB K (fun xs H Q=>(∃i,xs=[.int i]/\Q (.int i) H)∨∃k,xs=[.bl k]/\Q (.int (if k then 1 else 0)) H) (b1 gInt):=rc_one fun Y H v d o Q c e q=>by
 cases d with
 | int i=>cases e;exact .inl ⟨i,by rw[show v=V.int i from c],q _ (.int _)⟩
 | bl k=>cases e;exact .inr ⟨k,by rw[show v=V.bl k from c],q _ (.int _)⟩
 | _=>cases e
end
end VF
namespace VF
open PySem L2
inductive Pl:Nat->D->Prop where
 | non (n:Nat):Pl (n+1) .non
 | int (n:Nat) (i:Int):Pl (n+1) (.int i)
 | str (n:Nat) (x:Str):Pl (n+1) (.str x)
 | tup {n:Nat} {ds:List D}:(∀d∈ds,Pl n d)->Pl (n+1) (.tup ds)
 | lst {n:Nat} {ds:List D}:(∀d∈ds,Pl n d)->Pl (n+1) (.lst ds)
inductive RH (h:Heap):Value->D->Prop where
 | non:RH h .none .non
 | int (i:Int) (t:Tok):RH h (.int i t) (.int i)
 | str (x:Str) (t:Tok):RH h (.str x t) (.str x)
 | tup {a:Addr} {its:List Value} {ds:List D}:h.IsTuple a its.toArray->its.length=ds.length->(∀(i:Nat) u d,its[i]?=some u->ds[i]?=some d->RH h u d)->RH h (.ref a) (.tup ds)
 | lst {a:Addr} {its:List Value} {ds:List D}:h.IsList a its.toArray->its.length=ds.length->(∀(i:Nat) u d,its[i]?=some u->ds[i]?=some d->RH h u d)->RH h (.ref a) (.lst ds)
section
variable {X:Cx} {K:PySem.W.Frag} {Y:AS} {H:Hp} {s:Shared} {pins:List (Addr×Obj)} {σ:St}
theorem Pl.up {n:Nat} {d:D} (h:Pl n d):Pl (n+1) d:=by
 induction h with
 | non n=>exact .non _
 | int n i=>exact .int _ i
 | str n x=>exact .str _ x
 | tup _ ih=>exact .tup ih
 | lst _ ih=>exact .lst ih
theorem vals_at:∀{vs:List V} {us:List Value},Vals vs us->∀(i:Nat) u,us[i]?=some u->∃v,vs[i]?=some v/\RelV v u
 | _,_,.nil,i,u,h=>by simp at h
 | v::_,w::_,.cons r rs,0,u,h=>by
  have e:w=u:=by simpa using h
  exact⟨v,rfl,e ▸ r⟩
 | _::_,_::_,.cons r rs,i+1,u,h=>by
  obtain⟨v,h1,h2⟩:=vals_at rs i u (by simpa using h)
  exact⟨v,by simpa using h1,h2⟩
theorem DA.rh {n:Nat} {v:V} {d:D} (h:DA K Y H v d) (p:Pl n d) (I:Inv X pins σ H s) (hK:X.K=K):∀{u:Value},RelV v u->RH s.heap u d:=by
 induction h generalizing n with
 | non=>intro u r;cases r;exact .non
 | bl b=>cases p
 | int i=>intro u r;obtain⟨t,rfl⟩:=r;exact .int i t
 | str x=>intro u r;obtain⟨t,rfl⟩:=r;exact .str x t
 | ty n=>cases p
 | fl _ _ _ _=>cases p
 | dk _ _ _ _ _=>cases p
 | dt _ _ _ _ _ _=>cases p
 | @tup a vs ds h1 h2 h3 ih =>
  intro u r;cases r;cases p with
  | tup p =>
   obtain⟨its,r,t,_⟩:=I.tuple (hK ▸ h1.sq);refine .tup t (r.length.symm.trans h2) fun i u d e1 e2=>?_;obtain⟨v,e3,rv⟩:=vals_at r i u e1;exact ih i v d e3 e2 (p d (List.mem_of_getElem? e2)) rv
 | @lst a vs ds h0 h1 h2 h3 ih =>
  intro u r;cases r;cases p with
  | lst p =>
   obtain⟨its,r,t,_⟩:=I.list (show SqL X.K H a vs from .inl (.inl h1));refine .lst t.isList (r.length.symm.trans h2) fun i u d e1 e2=>?_;obtain⟨v,e3,rv⟩:=vals_at r i u e1;exact ih i v d e3 e2 (p d (List.mem_of_getElem? e2)) rv
theorem BA.rh {n:Nat} {v:V} {d:D} (h:BA K Y H v d) (p:Pl n d) (I:Inv X pins σ H s) (hK:X.K=K) {u:Value} (ru:RelV v u):RH s.heap u d:=by
 cases p with
 | non=>cases (show v=.non from h);cases ru;exact .non
 | int _ i=>cases (show v=.int i from h);obtain⟨t,rfl⟩:=ru;exact .int i t
 | str _ x=>cases (show v=.str x from h);obtain⟨t,rfl⟩:=ru;exact .str x t
 | tup p =>
  obtain⟨a,vs,rfl,h1,el⟩:=h;cases ru;obtain⟨its,r,t,_⟩:=I.tuple (hK ▸ h1.sq);refine .tup t (r.length.symm.trans el.1) fun i u d e1 e2=>?_;obtain⟨v,e3,rv⟩:=vals_at r i u e1;exact(el.2 i v d e3 e2).rh (p d (List.mem_of_getElem? e2)) I hK rv
 | lst p =>
  obtain⟨a,vs,rfl,h1,el⟩:=h;cases ru;obtain⟨its,r,t,_⟩:=I.list (show SqL X.K H a vs from .inl (.inl h1));refine .lst t.isList (r.length.symm.trans el.1) fun i u d e1 e2=>?_;obtain⟨v,e3,rv⟩:=vals_at r i u e1;exact(el.2 i v d e3 e2).rh (p d (List.mem_of_getElem? e2)) I hK rv
theorem isTup_inj {h:Heap} {a:Addr} {x y:Array Value} (h1:h.IsTuple a x) (h2:h.IsTuple a y):x=y:=by
 obtain⟨o,e1,_,n,d1⟩:=h1;obtain⟨o',e2,_,n',d2⟩:=h2;rw[e1]at e2;cases e2;rw[d1]at d2;cases d2;rfl
theorem isList_inj {h:Heap} {a:Addr} {x y:Array Value} (h1:h.IsList a x) (h2:h.IsList a y):x=y:=by
 obtain⟨o,e1,_,n,d1⟩:=h1;obtain⟨o',e2,_,n',d2⟩:=h2;rw[e1]at e2;cases e2;rw[d1]at d2;cases d2;rfl
theorem not_both {h:Heap} {a:Addr} {x y:Array Value} (h1:h.IsList a x) (h2:h.IsTuple a y):False:=by
 obtain⟨o,e1,c1,_⟩:=h1;obtain⟨o',e2,c2,_⟩:=h2;rw[e1]at e2;cases e2;rw[c1]at c2;injection c2 with c2;exact absurd c2 (by decide)
theorem RH.inj {h:Heap} {u:Value} {d:D} (r:RH h u d):∀{d':D},RH h u d'->d=d':=by
 induction r with
 | non=>intro d' r';cases r';rfl
 | int i t=>intro d' r';cases r';rfl
 | str x t=>intro d' r';cases r';rfl
 | @tup a its ds t hl _ ih =>
  intro d' r';cases r' with
  | @tup _ its' ds' t' hl' f =>
   have e:its=its':=by simpa using isTup_inj t t'
   subst e;have:ds=ds':=by
    refine List.ext_getElem (hl.symm.trans hl') fun i h1 h2=>?_;exact ih i its[i] ds[i] (List.getElem?_eq_getElem (by omega)) (List.getElem?_eq_getElem h1) (f i its[i] ds'[i] (List.getElem?_eq_getElem (by omega)) (List.getElem?_eq_getElem h2))
   rw[this]
  | lst t' _ _=>exact(not_both t' t).elim
 | @lst a its ds t hl _ ih =>
  intro d' r';cases r' with
  | @lst _ its' ds' t' hl' f =>
   have e:its=its':=by simpa using isList_inj t t'
   subst e;have:ds=ds':=by
    refine List.ext_getElem (hl.symm.trans hl') fun i h1 h2=>?_;exact ih i its[i] ds[i] (List.getElem?_eq_getElem (by omega)) (List.getElem?_eq_getElem h1) (f i its[i] ds'[i] (List.getElem?_eq_getElem (by omega)) (List.getElem?_eq_getElem h2))
   rw[this]
  | tup t' _ _=>exact(not_both t t').elim
open Classical in
theorem all_eq {xs ys:List D} (h:xs.length=ys.length):((List.range xs.length).all fun j=>decide (xs[j]?=ys[j]?))=decide (xs=ys):=by
 rw[Bool.eq_iff_iff,List.all_eq_true,decide_eq_true_eq];constructor
 ·intro e;refine List.ext_getElem? fun j=>?_;by_cases hj:j<xs.length
  ·exact of_decide_eq_true (e j (List.mem_range.mpr hj))
  ·rw[List.getElem?_eq_none (by omega),List.getElem?_eq_none (by omega)]
 ·rintro rfl j _;exact decide_eq_true rfl
open Classical in
theorem RH.eqAt:∀(n:Nat) {s:Shared} {d1 d2:D} {u1 u2:Value} {A:Around},Pl n d1->Pl n d2->RH s.heap u1 d1->RH s.heap u2 d2->A.units+n<cLine ->
  SeqAt.EqAt A s u1 u2 (decide (d1=d2))/\SeqAt.RcAt A s u1 u2 (decide (d1=d2))/\SeqAt.RcNeAt A s u1 u2 (!decide (d1=d2)):=by
 intro n;induction n with
 | zero=>intro s d1 d2 u1 u2 A p;cases p
 | succ n ih =>
  intro s d1 d2 u1 u2 A p1 p2 r1 r2 hu;have hu':A.units<cLine:=by omega
  cases r1 with
  | non =>
   cases r2 with
   | non=>rw[decide_eq_true rfl];exact⟨SeqAt.EqAt.same _,SeqAt.RcAt.none_none,SeqAt.RcNeAt.none_none⟩
   | int i t=>rw[decide_eq_false (by intro z;cases z)];exact⟨SeqAt.EqAt.none_int _ _,SeqAt.RcAt.none_int _ _,SeqAt.RcNeAt.none_int _ _⟩
   | str x t=>rw[decide_eq_false (by intro z;cases z)];exact⟨SeqAt.EqAt.none_str _ _,SeqAt.RcAt.none_str _ _,SeqAt.RcNeAt.none_str _ _⟩
   | tup t _ _=>rw[decide_eq_false (by intro z;cases z)];exact⟨SeqAt.EqAt.none_tuple t hu',SeqAt.RcAt.none_tuple t hu',SeqAt.RcNeAt.none_tuple t hu'⟩
   | lst t _ _=>rw[decide_eq_false (by intro z;cases z)];exact⟨SeqAt.EqAt.none_list t hu',SeqAt.RcAt.none_list t hu',SeqAt.RcNeAt.none_list t hu'⟩
  | int i t =>
   cases r2 with
   | non=>rw[decide_eq_false (by intro z;cases z)];exact⟨SeqAt.EqAt.int_none _ _,SeqAt.RcAt.int_none _ _,SeqAt.RcNeAt.int_none _ _⟩
   | int j t' =>
    have e:decide (D.int i=D.int j)=(i == j):=by rw[Bool.eq_iff_iff];simp
    rw[e];exact⟨SeqAt.EqAt.int_int _ _ _ _,SeqAt.RcAt.int_int _ _ _ _,SeqAt.RcNeAt.int_int _ _ _ _⟩
   | str x t'=>rw[decide_eq_false (by intro z;cases z)];exact⟨SeqAt.EqAt.int_str _ _ _ _,SeqAt.RcAt.int_str _ _ _ _,SeqAt.RcNeAt.int_str _ _ _ _⟩
   | tup t' _ _=>rw[decide_eq_false (by intro z;cases z)];exact⟨SeqAt.EqAt.int_tuple _ _ t' hu',SeqAt.RcAt.int_tuple _ _ t' hu',SeqAt.RcNeAt.int_tuple _ _ t' hu'⟩
   | lst t' _ _=>rw[decide_eq_false (by intro z;cases z)];exact⟨SeqAt.EqAt.int_list _ _ t' hu',SeqAt.RcAt.int_list _ _ t' hu',SeqAt.RcNeAt.int_list _ _ t' hu'⟩
  | str x t =>
   cases r2 with
   | non=>rw[decide_eq_false (by intro z;cases z)];exact⟨SeqAt.EqAt.str_none _ _,SeqAt.RcAt.str_none _ _,SeqAt.RcNeAt.str_none _ _⟩
   | int j t'=>rw[decide_eq_false (by intro z;cases z)];exact⟨SeqAt.EqAt.str_int _ _ _ _,SeqAt.RcAt.str_int _ _ _ _,SeqAt.RcNeAt.str_int _ _ _ _⟩
   | str y t' =>
    have e:decide (D.str x=D.str y)=(x == y):=by rw[Bool.eq_iff_iff];simp
    rw[e];exact⟨SeqAt.EqAt.str_str _ _ _ _,SeqAt.RcAt.str_str _ _ _ _,SeqAt.RcNeAt.str_str _ _ _ _⟩
   | tup t' _ _=>rw[decide_eq_false (by intro z;cases z)];exact⟨SeqAt.EqAt.str_tuple _ _ t' hu',SeqAt.RcAt.str_tuple _ _ t' hu',SeqAt.RcNeAt.str_tuple _ _ t' hu'⟩
   | lst t' _ _=>rw[decide_eq_false (by intro z;cases z)];exact⟨SeqAt.EqAt.str_list _ _ t' hu',SeqAt.RcAt.str_list _ _ t' hu',SeqAt.RcNeAt.str_list _ _ t' hu'⟩
  | @tup a its ds t hl f =>
   cases r2 with
   | non=>rw[decide_eq_false (by intro z;cases z)];exact⟨SeqAt.EqAt.tuple_none t hu',SeqAt.RcAt.tuple_none t hu',SeqAt.RcNeAt.tuple_none t hu'⟩
   | int j t'=>rw[decide_eq_false (by intro z;cases z)];exact⟨SeqAt.EqAt.tuple_int _ _ t hu',SeqAt.RcAt.tuple_int _ _ t hu',SeqAt.RcNeAt.tuple_int _ _ t hu'⟩
   | str y t'=>rw[decide_eq_false (by intro z;cases z)];exact⟨SeqAt.EqAt.tuple_str _ _ t hu',SeqAt.RcAt.tuple_str _ _ t hu',SeqAt.RcNeAt.tuple_str _ _ t hu'⟩
   | lst t' _ _=>rw[decide_eq_false (by intro z;cases z)];exact⟨SeqAt.EqAt.tuple_list t t' hu',SeqAt.RcAt.tuple_list t t' hu',SeqAt.RcNeAt.tuple_list t t' hu'⟩
   | @tup b its' ds' t' hl' f' =>
    cases p1 with
    | tup p1 =>
    cases p2 with
    | tup p2 =>
    have it:∀j (h1:j<its.toArray.size) (h2:j<its'.toArray.size),SeqAt.EqAt A.in1 s its.toArray[j] its'.toArray[j] (decide (ds[j]?=ds'[j]?)):=fun j h1 h2=>by
     have h1':j<its.length:=by simpa using h1
     have h2':j<its'.length:=by simpa using h2
     have e1:ds[j]?=some ds[j]:=List.getElem?_eq_getElem (by omega)
     have e2:ds'[j]?=some ds'[j]:=List.getElem?_eq_getElem (by omega)
     have z:=(ih (A:=A.in1) (p1 _ (List.mem_of_getElem? e1)) (p2 _ (List.mem_of_getElem? e2)) (f j its[j] _ (List.getElem?_eq_getElem h1') e1) (f' j its'[j] _ (List.getElem?_eq_getElem h2') e2) (by show A.units+1+n<cLine;omega)).1
     have e:decide (ds[j]?=ds'[j]?)=decide (ds[j]=ds'[j]):=by rw[e1,e2,Bool.eq_iff_iff];simp
     rw[e];simpa using z
    have e:decide (D.tup ds=D.tup ds')=((List.range (min its.toArray.size its'.toArray.size)).all (fun j=>decide (ds[j]?=ds'[j]?))&&its.toArray.size == its'.toArray.size):=by
     simp only[List.size_toArray];by_cases hh:its.length=its'.length
     ·rw[← hh,Nat.min_self,hl,all_eq (by omega),Bool.eq_iff_iff];simp
     ·have:ds≠ds':=fun z=>hh (by rw[hl,hl',z])
      rw[Bool.eq_iff_iff];simp[hh,this]
    have rc:SeqAt.RcAt A s (.ref a) (.ref b) (decide (D.tup ds=D.tup ds')):=by
     rw[e];exact SeqAt.RcAt.tuples (A:=A) (e:=fun j=>decide (ds[j]?=ds'[j]?)) t t' hu' it
    have rn:SeqAt.RcNeAt A s (.ref a) (.ref b) (!decide (D.tup ds=D.tup ds')):=by
     rw[e];exact SeqAt.RcNeAt.tuples (A:=A) (e:=fun j=>decide (ds[j]?=ds'[j]?)) t t' hu' it
    refine⟨?_,rc,rn⟩;by_cases hab:a=b
    ·subst hab;have:=RH.inj (RH.tup t hl f) (RH.tup t' hl' f');rw[this,decide_eq_true rfl];exact SeqAt.EqAt.same _
    ·exact SeqAt.EqAt.of_refs hab rc
  | @lst a its ds t hl f =>
   cases r2 with
   | non=>rw[decide_eq_false (by intro z;cases z)];exact⟨SeqAt.EqAt.list_none t hu',SeqAt.RcAt.list_none t hu',SeqAt.RcNeAt.list_none t hu'⟩
   | int j t'=>rw[decide_eq_false (by intro z;cases z)];exact⟨SeqAt.EqAt.list_int _ _ t hu',SeqAt.RcAt.list_int _ _ t hu',SeqAt.RcNeAt.list_int _ _ t hu'⟩
   | str y t'=>rw[decide_eq_false (by intro z;cases z)];exact⟨SeqAt.EqAt.list_str _ _ t hu',SeqAt.RcAt.list_str _ _ t hu',SeqAt.RcNeAt.list_str _ _ t hu'⟩
   | tup t' _ _=>rw[decide_eq_false (by intro z;cases z)];exact⟨SeqAt.EqAt.list_tuple t t' hu',SeqAt.RcAt.list_tuple t t' hu',SeqAt.RcNeAt.list_tuple t t' hu'⟩
   | @lst b its' ds' t' hl' f' =>
    cases p1 with
    | lst p1 =>
    cases p2 with
    | lst p2 =>
    have it:∀j (h1:j<its.toArray.size) (h2:j<its'.toArray.size),SeqAt.EqAt A.in1 s its.toArray[j] its'.toArray[j] (decide (ds[j]?=ds'[j]?)):=fun j h1 h2=>by
     have h1':j<its.length:=by simpa using h1
     have h2':j<its'.length:=by simpa using h2
     have e1:ds[j]?=some ds[j]:=List.getElem?_eq_getElem (by omega)
     have e2:ds'[j]?=some ds'[j]:=List.getElem?_eq_getElem (by omega)
     have z:=(ih (A:=A.in1) (p1 _ (List.mem_of_getElem? e1)) (p2 _ (List.mem_of_getElem? e2)) (f j its[j] _ (List.getElem?_eq_getElem h1') e1) (f' j its'[j] _ (List.getElem?_eq_getElem h2') e2) (by show A.units+1+n<cLine;omega)).1
     have e:decide (ds[j]?=ds'[j]?)=decide (ds[j]=ds'[j]):=by rw[e1,e2,Bool.eq_iff_iff];simp
     rw[e];simpa using z
    have both:SeqAt.RcAt A s (.ref a) (.ref b) (decide (D.lst ds=D.lst ds'))/\SeqAt.RcNeAt A s (.ref a) (.ref b) (!decide (D.lst ds=D.lst ds')):=by
     by_cases hh:its.length=its'.length
     ·have e:decide (D.lst ds=D.lst ds')=(List.range its.toArray.size).all fun j=>decide (ds[j]?=ds'[j]?):=by
       simp only[List.size_toArray];rw[hl,all_eq (by omega),Bool.eq_iff_iff];simp
      rw[e];exact⟨SeqAt.RcAt.lists (A:=A) (e:=fun j=>decide (ds[j]?=ds'[j]?)) t t' (by simpa using hh) hu' it,SeqAt.RcNeAt.lists (A:=A) (e:=fun j=>decide (ds[j]?=ds'[j]?)) t t' (by simpa using hh) hu' it⟩
     ·have:ds≠ds':=fun z=>hh (by rw[hl,hl',z])
      rw[decide_eq_false (by intro z;cases z;exact this rfl)]
      exact⟨SeqAt.RcAt.lists_lengths t t' (by simpa using hh) hu',SeqAt.RcNeAt.lists_lengths t t' (by simpa using hh) hu'⟩
    obtain⟨rc,rn⟩:=both;refine⟨?_,rc,rn⟩;by_cases hab:a=b
    ·subst hab;have:=RH.inj (RH.lst t hl f) (RH.lst t' hl' f');rw[this,decide_eq_true rfl];exact SeqAt.EqAt.same _
    ·exact SeqAt.EqAt.of_refs hab rc
open Classical in
noncomputable def bEqP (neg:Bool):D->D->Option Rz:=fun a b=>if Pl 40 a/\Pl 40 b then some (.bl (if neg then !decide (a=b) else decide (a=b)),false) else none
open Classical in
noncomputable def rEqP (K:PySem.W.Frag) (neg:Bool):R2:=fun x y H Q=>∃(Y:AS) (a b:D),BA K Y H x a/\BA K Y H y b/\Pl 40 a/\Pl 40 b/\Q (.bl (if neg then !decide (a=b) else decide (a=b))) H
theorem ro_eqP (neg:Bool):RdOp K (rEqP K neg) (bEqP neg):=by
 intro Y H x y d1 d2 z Q lv b1 b2 e q;unfold bEqP at e;by_cases c:Pl 40 d1/\Pl 40 d2
 ·rw[if_pos c]at e;cases e;exact⟨Y,d1,d2,b1,b2,c.1,c.2,q _ H (Same.refl H) (.bl _)⟩
 ·rw[if_neg c]at e;cases e
theorem op_eqP (h:X.K=K) (hu:X.A.units+64<cLine):OpR X (compareOp .Eq) (rEqP K false):=by
 intro pins s σ H x y v u Q I rx ry ⟨Y,a,b,b1,b2,p1,p2,q⟩;exact(RH.eqAt 40 (A:=X.A) p1 p2 (b1.rh p1 I h rx) (b2.rh p2 I h ry) (by omega)).2.1 _ _ _ _ ⟨.bl _,H,I,rfl,q⟩
theorem op_neP (h:X.K=K) (hu:X.A.units+64<cLine):OpR X (compareOp .NotEq) (rEqP K true):=by
 intro pins s σ H x y v u Q I rx ry ⟨Y,a,b,b1,b2,p1,p2,q⟩;exact(RH.eqAt 40 (A:=X.A) p1 p2 (b1.rh p1 I h rx) (b2.rh p2 I h ry) (by omega)).2.2 _ _ _ _ ⟨.bl _,H,I,rfl,q⟩
noncomputable def bEqD:=orD bEq (bEqP false)
noncomputable def bNeD:=orD bNe (bEqP true)
noncomputable def rEqD (K:PySem.W.Frag):R2:=fun x y H Q=>rEq x y H Q∨rEqP K false x y H Q
noncomputable def rNeD (K:PySem.W.Frag):R2:=fun x y H Q=>rNeA K x y H Q∨rEqP K true x y H Q
theorem op_eqD (h:X.K=K) (hu:X.A.units+64<cLine):OpR X (compareOp .Eq) (rEqD K):=(op_eqA h hu).or (op_eqP h hu)
theorem ro_eqD:RdOp K (rEqD K) bEqD:=ro_eqA.or (ro_eqP false)
theorem op_neD (h:X.K=K) (hu:X.A.units+64<cLine):OpR X (compareOp .NotEq) (rNeD K):=(op_neA h hu).or (op_neP h hu)
theorem ro_neD:RdOp K (rNeD K) bNeD:=ro_neA.or (ro_eqP true)
open Classical in
noncomputable def bInP (neg:Bool):D->D->Option Rz:=fun a b=>match b.seq with
 | some ds=>if Pl 40 a/\(∀d∈ds,Pl 40 d) then some (.bl (if neg then !decide (a∈ds) else decide (a∈ds)),false) else none
 | none=>none
open Classical in
noncomputable def rInP (K:PySem.W.Frag) (neg:Bool):R2:=fun x y H Q=>∃(Y:AS) (a b:D) (ds:List D),BA K Y H x a/\BA K Y H y b/\b.seq=some ds/\Pl 40 a/\(∀d∈ds,Pl 40 d)/\Q (.bl (if neg then !decide (a∈ds) else decide (a∈ds))) H
theorem ro_inP (neg:Bool):RdOp K (rInP K neg) (bInP neg):=by
 intro Y H x y d1 d2 z Q lv b1 b2 e q;unfold bInP at e;split at e
 ·rename_i ds hs
  by_cases c:Pl 40 d1/\(∀d∈ds,Pl 40 d)
  ·rw[if_pos c]at e;cases e;exact⟨Y,d1,d2,ds,b1,b2,hs,c.1,c.2,q _ H (Same.refl H) (.bl _)⟩
  ·rw[if_neg c]at e;cases e
 ·cases e
open Classical in
theorem in_items {ds:List D} {a:D} {its:List Value} {u:Value} {A:Around} (hl:its.length=ds.length) (f:∀(i:Nat) u d,its[i]?=some u->ds[i]?=some d->RH s.heap u d) (p1:Pl 40 a) (p2:∀d∈ds,Pl 40 d) (r:RH s.heap u a) (hu:A.units+64<cLine) :
  (∀y,y∈its.toArray->SeqAt.EqAt A.in1 s y u (decide (RH s.heap y a)))/\its.toArray.any (fun y=>decide (RH s.heap y a))=decide (a∈ds):=by
 constructor
 ·intro y hy;obtain⟨i,hi,rfl⟩:=List.mem_iff_getElem.mp (show y∈its by simpa using hy)
  have e1:ds[i]?=some ds[i]:=List.getElem?_eq_getElem (by omega)
  have ry:=f i its[i] _ (List.getElem?_eq_getElem hi) e1;have z:=(RH.eqAt 40 (A:=A.in1) (p2 _ (List.mem_of_getElem? e1)) p1 ry r (by show A.units+1+40<cLine;omega)).1
  have e:decide (ds[i]=a)=decide (RH s.heap its[i] a):=by
   rw[Bool.eq_iff_iff,decide_eq_true_eq,decide_eq_true_eq];exact⟨fun e=>e ▸ ry,fun r'=>ry.inj r'⟩
  rw[← e];exact z
 ·rw[Bool.eq_iff_iff,decide_eq_true_eq];simp only[List.any_toArray,List.any_eq_true,decide_eq_true_eq];constructor
  ·rintro⟨y,hy,ry⟩;obtain⟨i,hi,rfl⟩:=List.mem_iff_getElem.mp hy;have e1:ds[i]?=some ds[i]:=List.getElem?_eq_getElem (by omega)
   have:=(f i its[i] _ (List.getElem?_eq_getElem hi) e1).inj ry;rw[← this];exact List.mem_of_getElem? e1
  ·intro ha;obtain⟨i,hi,rfl⟩:=List.mem_iff_getElem.mp ha;exact⟨its[i],List.getElem_mem _,f i _ _ (List.getElem?_eq_getElem (by omega)) (List.getElem?_eq_getElem hi)⟩
theorem seq_items {v:V} {d:D} {ds:List D} {u:Value} (h:BA K Y H v d) (e:d.seq=some ds) (p:∀x∈ds,Pl 40 x) (I:Inv X pins σ H s) (hK:X.K=K) (ru:RelV v u) :
  ∃a its,u=.ref a/\(s.heap.IsList a (List.toArray its)∨s.heap.IsTuple a its.toArray)/\its.length=ds.length/\∀(i:Nat) u d,its[i]?=some u->ds[i]?=some d->RH s.heap u d:=by
 obtain⟨a,vs,rfl,sq,el⟩:=seq_ba h e;cases ru;have rest:∀{its:List Value},Vals vs its->its.length=ds.length/\∀(i:Nat) u d,its[i]?=some u->ds[i]?=some d->RH s.heap u d:=fun {its} r=>by
  refine⟨r.length.symm.trans el.1,fun i u d e1 e2=>?_⟩;obtain⟨v,e3,rv⟩:=vals_at r i u e1;exact(el.2 i v d e3 e2).rh (p d (List.mem_of_getElem? e2)) I hK rv
 rcases sq with sq|sq
 ·obtain⟨its,r,t,_⟩:=I.list (hK ▸ sq);exact⟨a,its,rfl,.inl t.isList,rest r⟩
 ·obtain⟨its,r,t,_⟩:=I.tuple (hK ▸ sq);exact⟨a,its,rfl,.inr t,rest r⟩
theorem op_inP (h:X.K=K) (hu:X.A.units+64<cLine):OpR X (compareOp .In) (rInP K false):=by
 intro pins s σ H x y v u Q I rx ry ⟨Y,a,b,ds,b1,b2,hs,p1,p2,q⟩;obtain⟨l,its,rfl,hl,hn,f⟩:=seq_items b2 hs p2 I h ry;obtain⟨h1,h2⟩:=in_items (A:=X.A) hn f p1 p2 (b1.rh p1 I h rx) hu;rcases hl with hl|hl
 ·refine SeqAt.in_listAt _ hl h1 ?_;rw[h2];exact⟨.bl _,H,I,rfl,q⟩
 ·refine SeqAt.in_tupleAt _ hl h1 ?_;rw[h2];exact⟨.bl _,H,I,rfl,q⟩
noncomputable def bInD:=orD bIn (bInP false)
noncomputable def rInD (K:PySem.W.Frag):R2:=fun x y H Q=>rInA K x y H Q∨rInP K false x y H Q
theorem op_inD (h:X.K=K) (hu:X.A.units+64<cLine):OpR X (compareOp .In) (rInD K):=(op_inA h).or (op_inP h hu)
theorem ro_inD:RdOp K (rInD K) bInD:=ro_inA.or (ro_inP false)
end
end VF
namespace VF
open PySem L2 PySem.Spec
noncomputable abbrev TCh:=V->St->Hp->VK->Prop
noncomputable def chLast (r:R2) (te:TE):TCh:=fun y σ H Q=>te σ H fun w H1=>r y w H1 Q
noncomputable def chLink (r:R2) (te:TE) (rest:TCh):TCh:=fun y σ H Q=>te σ H fun w H1=>r y w H1 fun z H2=>∃k,z=.bl k/\(if k=true then rest w σ H2 Q else Q (.bl false) H2)
noncomputable def tChN (ta:TE) (rest:TCh):TE:=fun σ H Q=>ta σ H fun x H1=>rest x σ H1 Q
section
variable {X:Cx} {a b e:Expr} {ta te:TE}
noncomputable def PChT (X:Cx) (ops:List CmpOp) (es:List Expr) (t:TCh):Prop:=∀(pins:List (Addr×Obj)) (s:Shared) (σ:St) (H:Hp) (y:V) (u:Value) (Q:Bool->Hp->Prop) (pos:Pos),Inv X pins σ H s->RelV y u->t y σ H (fun x H'=>∃k,x=.bl k/\Q k H') ->
 wpAny (model X.prog X.w) X.A (testChain pos u ops (evalEach es X.env)) (TP X pins σ Q) X.xe s
theorem pcht_last {op:CmpOp} {r:R2} (ho:OpR X (compareOp op) r) (he:PE X e te):PChT X [op] [e] (chLast r te):=by
 intro pins s σ H y u Q pos I ru h;refine PyProof.Rows.test_last (thn (he pins s σ H _ I h) fun w s1 ⟨z,H1,I1,r1,q1⟩=>thn (ho pins s1 σ H1 y z u w _ I1 ru r1 q1) fun d s3 ⟨z',H3,I3,r3,k,e,q3⟩=>?_);subst e;cases r3;exact wpAny_truthy_bool ⟨H3,I3,q3⟩
theorem pcht_link {op op':CmpOp} {ops:List CmpOp} {es:List Expr} {e':Expr} {r:R2} {t:TCh} (ho:OpR X (compareOp op) r) (he:PE X e te) (ht:PChT X (op'::ops) (e'::es) t):PChT X (op::op'::ops) (e::e'::es) (chLink r te t):=by
 intro pins s σ H y u Q pos I ru h;refine PyProof.Rows.test_link (thn (he pins s σ H _ I h) fun w s1 ⟨z,H1,I1,r1,q1⟩=>thn (ho pins s1 σ H1 y z u w _ I1 ru r1 q1) fun d s3 ⟨z',H3,I3,r3,k,e,q3⟩=>?_);subst e;cases r3;refine wpAny_truthy_bool ?_;cases k with
 | false =>
  obtain⟨k',e',q'⟩:=q3;cases e';exact PyProof.Rows.ite_ff ⟨H3,I3,q'⟩
 | true=>exact PyProof.Rows.ite_tt (ht pins s3 σ H3 z w Q pos I3 r1 q3)
theorem pt_chN {op op':CmpOp} {ops:List CmpOp} {es:List Expr} {e':Expr} {pos:Pos} {t:TCh} (ha:PE X a ta) (ht:PChT X (op::op'::ops) (e::e'::es) t) (hm:lastMarks (op::op'::ops) (e::e'::es)=false:=by with_unfolding_all rfl):PT X (.Compare a (op::op'::ops) (e::e'::es) pos) (tTest (tChN ta t)):=by
 intro pins s σ H Q I h;exact PyProof.Rows.isTrue_chain (thn (ha pins s σ H _ I h) fun v s1 ⟨x,H1,I1,r1,q1⟩=>ht pins s1 σ H1 x v Q pos I1 r1 q1) hm
theorem pg_tupK {K:PySem.W.Frag} {es:List Expr} {k:Nat} {t:TGs} {n:Nat} {pos:Pos} (hK:X.K=K) (hc:X.calm=true) (h:PGs X es t)
  (hn:(assignEach es X.env).length=n:=by rfl) (hst:(assignEach es X.env).findIdx? (·.1)=none:=by rfl):PG X (.Tuple es k pos) (gTup K n t):=hK ▸ pg_tup hc h hn hst
end
section
variable {K:PySem.W.Frag} {Y O O' Z:AS} {H H':Hp} {v:V} {d:D} {st st':En} {σ:St}
noncomputable abbrev FCh:=Rs->FE
noncomputable def RdCh (K:PySem.W.Frag) (t:TCh) (f:FCh):Prop:=∀(st:En) (σ:St) (H:Hp) (O Z:AS) (Q:VK) (y:V) (ry:Rs),ER K st σ H O Z->RVal K Z st σ H O y ry.nf->∀r st',f ry st=some (r,st') ->
 (∀v H' O',Ext O H O' H'->Kp st st'->ER K st' σ H' O' Z->RVal K Z st' σ H' O' v r->Fsh H v r->Q v H')->t y σ H Q
noncomputable def fChLast (b:D->D->Option Rz) (fe:FE):FCh:=fun ry st=>(fe st).bind fun x=>(cont x.2 ry).bind fun d1=>(cont x.2 x.1).bind fun d2=>(b d1 d2).bind fun z=>some (mk z,x.2)
theorem rch_last {r:R2} {b:D->D->Option Rz} {te:TE} {fe:FE} (hr:RdOp K r b) (he:RdE K te fe):RdCh K (chLast r te) (fChLast b fe):=by
 intro st σ H O Z Q y ry E rv0 r0 st' h q;obtain⟨⟨r2,st2⟩,e2,h⟩:=Option.bind_eq_some_iff.mp h;obtain⟨d1,e3,h⟩:=Option.bind_eq_some_iff.mp h;obtain⟨d2,e4,h⟩:=Option.bind_eq_some_iff.mp h;obtain⟨z,e5,h⟩:=Option.bind_eq_some_iff.mp h;cases h;refine he st σ H O Z _ E r2 st2 e2 fun v2 H2 O2 x2 k2 E2 rv2 w2=>?_;have b1:=(rv0.ext x2 k2).ba E2 (by rw[cont_nf];exact e3)
 refine hr (U O2 Z) H2 y v2 d1 d2 z _ E2.liv b1 (rv2.ba E2 e4) e5 fun v H3 s hres=>?_;obtain⟨E3,rv3⟩:=hres.rv E2 s;exact q v H3 O2 (x2.trans (Same.ext s)) k2 E3 rv3 (hres.fsh.back x2)
noncomputable def fChLink (b:D->D->Option Rz) (fe:FE) (rest:FCh):FCh:=fun ry st=>(fe st).bind fun x=>(cont x.2 ry).bind fun d1=>(cont x.2 x.1).bind fun d2=>(b d1 d2).bind fun z=>match z with
 | (.bl true,false)=>rest x.1 x.2
 | (.bl false,false)=>some (.d (.bl false),x.2)
 | _=>none
theorem rch_link {r:R2} {b:D->D->Option Rz} {te:TE} {fe:FE} {t:TCh} {f:FCh} (hr:RdOp K r b) (he:RdE K te fe) (ht:RdCh K t f):RdCh K (chLink r te t) (fChLink b fe f):=by
 intro st σ H O Z Q y ry E rv0 r0 st' h q;obtain⟨⟨r2,st2⟩,e2,h⟩:=Option.bind_eq_some_iff.mp h;obtain⟨d1,e3,h⟩:=Option.bind_eq_some_iff.mp h;obtain⟨d2,e4,h⟩:=Option.bind_eq_some_iff.mp h;obtain⟨z,e5,h⟩:=Option.bind_eq_some_iff.mp h;refine he st σ H O Z _ E r2 st2 e2 fun v2 H2 O2 x2 k2 E2 rv2 w2=>?_;have b1:=(rv0.ext x2 k2).ba E2 (by rw[cont_nf];exact e3)
 refine hr (U O2 Z) H2 y v2 d1 d2 z _ E2.liv b1 (rv2.ba E2 e4) e5 fun v H3 s hres=>?_;obtain⟨dz,fr⟩:=z;cases dz with
 | bl c =>
  cases fr with
  | true=>cases c<;>cases h
  | false =>
   have ev:v=.bl c:=DA.ba (show DA K (U O2 Z) H3 v (.bl c) from hres);refine⟨c,ev,?_⟩;have E3:=E2.same s;have x3:Ext O2 H2 O2 H3:=Same.ext s;cases c with
   | false =>
    rw[if_neg (by decide)]
    cases h;exact q _ H3 O2 (x2.trans x3) k2 E3 (.bl false) True.intro
   | true =>
    rw[if_pos rfl];exact ht st2 σ H3 O2 Z Q v2 r2 E3 (rv2.nf.ext x3 (Kp.refl _)) r0 st' h fun w H4 O4 x4 k4 E4 rv4 w4=>q w H4 O4 ((x2.trans x3).trans x4) (k2.trans k4) E4 rv4 (w4.back (x2.trans x3))
 | _=>cases fr<;>cases h
noncomputable def fChN (fa:FE) (f:FCh):FE:=fun st=>(fa st).bind fun x=>f x.1 x.2
theorem rd_chN {ta:TE} {fa:FE} {t:TCh} {f:FCh} (ha:RdE K ta fa) (ht:RdCh K t f):RdE K (tChN ta t) (fChN fa f):=by
 intro st σ H O Z Q E r0 st' h q;obtain⟨⟨r1,st1⟩,e1,h⟩:=Option.bind_eq_some_iff.mp h;refine ha st σ H O Z _ E r1 st1 e1 fun v1 H1 O1 x1 k1 E1 rv1 w1=>?_;exact ht st1 σ H1 O1 Z Q v1 r1 E1 rv1.nf r0 st' h fun w H4 O4 x4 k4 E4 rv4 w4=>q w H4 O4 (x1.trans x4) (k1.trans k4) E4 rv4 (w4.back x1)
end
end VF
namespace VF
open PySem L2
section
variable {α:Type} {fg:FG} {B:FS} {fc:FT} {fe:FE} {k:Nat}
theorem forL_list (f:α->D) (all:List α) (I:List α->En->Prop) (step:∀(gone:List α) (x:α) (rest:List α) (st:En),all=gone++x::rest->I gone st->∃s1 s2,fg (f x) st=some s1/\B s1=some (.nx s2)/\I (gone++[x]) s2) :
  ∀(items gone:List α) (st:En),all=gone++items->I gone st->∃sf,sForL fg B (items.map f) st=some (.nx sf)/\I all sf
 | [],gone,st,ha,h=>⟨st,rfl,by rw[ha,List.append_nil];exact h⟩
 | x::r,gone,st,ha,h=>by
  obtain⟨s1,s2,e1,e2,e3⟩:=step gone x r st ha h;obtain⟨sf,e4,e5⟩:=forL_list f all I step r (gone++[x]) s2 (by rw[List.append_assoc];exact ha) e3
  refine⟨sf,?_,e5⟩;simp only[List.map_cons,sForL,e1,e2,Option.bind_some];exact e4
theorem compL_list (f g:α->D) (p:α->Bool) (sb:En):∀(xs:List α),(∀x∈xs,∃s1 s2,fg (f x) sb=some s1/\fc s1=some (p x,s2)/\(p x=false->rst k s2=sb)/\(p x=true->∃y s3 s4,fe s2=some (y,s3)/\esc y s3=some (g x,s4)/\rst k s4=sb)) ->
  compL fg fc fe k (xs.map f) sb=some ((xs.filter p).map g,sb)
 | [],_=>rfl
 | x::r,h=>by
  obtain⟨s1,s2,e1,e2,hf,ht⟩:=h x List.mem_cons_self;have ih:=compL_list f g p sb r fun y hy=>h y (List.mem_cons_of_mem _ hy);cases hp:p x with
  | false =>
   rw[hp]at e2;simp only[List.map_cons,compL,e1,e2,Option.bind_some,Bool.false_eq_true,if_false,hf hp,ih,List.filter_cons,hp]
  | true =>
   rw[hp]at e2;obtain⟨y,s3,s4,e3,e4,e5⟩:=ht hp;simp only[List.map_cons,compL,e1,e2,Option.bind_some,if_true,e3,e4,e5,ih,List.filter_cons,hp]
theorem compL_lmap (f g:α->D) (sb:En) (xs:List α) (h:∀x∈xs,∃s1 s2 y s3 s4,fg (f x) sb=some s1/\fc s1=some (true,s2)/\fe s2=some (y,s3)/\esc y s3=some (g x,s4)/\rst k s4=sb) :
  compL fg fc fe k (xs.map f) sb=some (xs.map g,sb):=by
 have:=compL_list (fg:=fg) (fc:=fc) (fe:=fe) (k:=k) f g (fun _=>true) sb xs fun x hx=>by
  obtain⟨s1,s2,y,s3,s4,e1,e2,e3,e4,e5⟩:=h x hx;exact⟨s1,s2,e1,e2,fun z=>(Bool.noConfusion z),fun _=>⟨y,s3,s4,e3,e4,e5⟩⟩
 rw[this,List.filter_eq_self.mpr fun _ _=>rfl]
end
theorem ext_loop {α:Type} {f:α->D} {g:α->List D} {B:FS} {fg:FG} (S:List D->En->Prop) (all:List α) (bound:Nat)
  (step:∀acc x st,x∈all->acc.length+(g x).length<=bound->S acc st->∃s1 s2,fg (f x) st=some s1/\B s1=some (.nx s2)/\S (acc++g x) s2) :
  ∀(xs:List α) (base:List D) (st:En),(∀x∈xs,x∈all)->base.length+(xs.flatMap g).length<=bound->S base st->∃sf,sForL fg B (xs.map f) st=some (.nx sf)/\S (base++xs.flatMap g) sf
 | [],base,st,_,_,h=>⟨st,rfl,by simpa using h⟩
 | x::r,base,st,ha,hb,h=>by
  rw[List.flatMap_cons,List.length_append]at hb;obtain⟨s1,s2,e1,e2,e3⟩:=step base x st (ha x List.mem_cons_self) (by omega) h
  obtain⟨sf,e4,e5⟩:=ext_loop S all bound step r (base++g x) s2 (fun y hy=>ha y (List.mem_cons_of_mem _ hy)) (by rw[List.length_append];omega) e3
  refine⟨sf,?_,by rw[List.flatMap_cons,← List.append_assoc];exact e5⟩
  simp only[List.map_cons,sForL,e1,e2,Option.bind_some];exact e4
section
variable {st s1:En} {rs:List Rs} {fa:FA}
theorem rng2_ev {i j:Int} (h1:fa st=some (rs,s1)) (h2:contAll s1 rs=some [.int i,.int j]) (h3:-(2 ^ 62)<=i/\i<2 ^ 62/\-(2 ^ 62)<=j/\j<2 ^ 62):fIR2 fa st=some (rng i (j-i).toNat,s1):=by
 simp only[fIR2,h1,h2,Option.bind_some,twoI];rw[if_pos h3]
theorem extL_ev {xs ys:List D} (h:xs.length+ys.length<=1000000):mExtend (.lst xs) [.lst ys]=some (.non,.lst (xs++ys)):=by
 show(if xs.length+ys.length<=1000000 then some (D.non,D.lst (xs++ys)) else none)=_;rw[if_pos h]
end
theorem rng_nat (a n:Nat):rng (a:Int) n=(List.range n).map fun t=>D.int ((a+t:Nat):Int):=by
 unfold rng;exact List.map_congr_left fun t _=>by rw[Int.natCast_add]
end VF
namespace TS
open PySem PyProof.Rows
theorem wpS_t {M:Model} {A:Around} {E:Value->Shared->Prop} {s:Shared} {σ γ:Type} {X Y:StateT σ Sem γ} {p:Prop} {d:Decidable p} {Q:γ->σ->Prop} {st:σ} (h:p) (k:wpS M A E s X Q st):wpS M A E s (@ite _ p d X Y) Q st:=by rw[if_pos h];exact k
theorem wpS_f {M:Model} {A:Around} {E:Value->Shared->Prop} {s:Shared} {σ γ:Type} {X Y:StateT σ Sem γ} {p:Prop} {d:Decidable p} {Q:γ->σ->Prop} {st:σ} (h:¬ p) (k:wpS M A E s Y Q st):wpS M A E s (@ite _ p d X Y) Q st:=by rw[if_neg h];exact k
theorem swap_map {α β:Type} (f:α->β) (x:Array α) (i j:Nat):(x.map f).swapIfInBounds i j=(x.swapIfInBounds i j).map f:=by
 apply Array.ext_getElem?
 intro k;by_cases hi:i<x.size
 ·by_cases hj:j<x.size
  ·rw[getElem?_swapIB (by rw[Array.size_map];exact hi) (by rw[Array.size_map];exact hj),Array.getElem?_map,Array.getElem?_map,Array.getElem?_map,Array.getElem?_map,getElem?_swapIB hi hj]
   split
   ·rfl
   ·split<;>rfl
  ·rw[Array.swapIfInBounds_def,Array.swapIfInBounds_def,dif_pos (by rw[Array.size_map];exact hi),dif_pos hi,dif_neg (by rw[Array.size_map];exact hj),dif_neg hj]
 ·rw[Array.swapIfInBounds_def,Array.swapIfInBounds_def,dif_neg (by rw[Array.size_map];exact hi),dif_neg hi]
theorem swaps_map {α β γ:Type} (f:α->β) (p q:γ->Nat):∀(l:List γ) (x:Array α),l.foldl (fun a k=>a.swapIfInBounds (p k) (q k)) (x.map f)=(l.foldl (fun a k=>a.swapIfInBounds (p k) (q k)) x).map f
 | [],x=>rfl
 | k::l,x=>by
  rw[List.foldl_cons,List.foldl_cons,swap_map];exact swaps_map f p q l _
theorem bubble_map {α β:Type} (f:α->β) (x:Array α) (i d:Nat):bubble (x.map f) i d=(bubble x i d).map f:=swaps_map f _ _ _ x
theorem mirror_map {α β:Type} (f:α->β) (x:Array α) (i j d:Nat):mirror (x.map f) i j d=(mirror x i j d).map f:=swaps_map f _ _ _ x
structure Cm (prog:Program) (w:World) (A:Around) (s:Shared) (k:SortKind) (f:Nat->Keyed) (N:Nat) (c:Nat->Nat->Bool):Prop where
 lt:∀(E:Value->Shared->Prop) (Q:Bool->Shared->Prop) (g h:Nat),g<N->h<N->Q (c g h) s->wpAny (model prog w) A (keyLt' k (f g).1 (f h).1) Q E s
 irr:∀g,c g g=false
 tra:∀g h i,c g h=true->c h i=true->c g i=true
 neg:∀g h i,c g i=true->c g h=true∨c h i=true
noncomputable def Bf (c:Nat->Nat->Bool) (g h:Nat):Prop:=c g h=true∨(c h g=false/\g<h)
structure Rp (k:SortKind) (f:Nat->Keyed) (N:Nat) (st:SortSt) (γ:Array Nat):Prop where
 arr:arrOf st=γ.map f
 kind:kindOf st=k
 fine:failedOf st=none
 perm:γ.Perm (Array.range N)
section
variable {prog:Program} {w:World} {A:Around} {E:Value->Shared->Prop} {s:Shared} {k:SortKind} {f:Nat->Keyed} {N:Nat} {c:Nat->Nat->Bool} {st:SortSt} {γ:Array Nat}
theorem Cm.asy (C:Cm prog w A s k f N c) {g h:Nat} (e:c g h=true):c h g=false:=by
 cases e':c h g with
 | false=>rfl
 | true=>exact absurd (C.tra g h g e e') (by rw[C.irr];exact Bool.noConfusion)
theorem Cm.le (C:Cm prog w A s k f N c) {g h:Nat} (e:Bf c g h):c h g=false:=by
 rcases e with e|e
 ·exact C.asy e
 ·exact e.1
theorem Cm.letr (C:Cm prog w A s k f N c) {g h i:Nat} (e:c h g=false) (e':c i h=false):c i g=false:=by
 cases e2:c i g with
 | false=>rfl
 | true =>
  rcases C.neg i h g e2 with q|q
  ·rw[q]at e';exact e'
  ·rw[q]at e;exact e
theorem Cm.trans (C:Cm prog w A s k f N c) {g h i:Nat} (e:Bf c g h) (e':Bf c h i):Bf c g i:=by
 have l:=C.letr (C.le e) (C.le e');cases e2:c g i with
 | true=>exact .inl e2
 | false =>
  refine .inr ⟨l,?_⟩;rcases e with e|e
  ·rcases C.neg g i h e with q|q
   ·rw[q]at e2;cases e2
   ·rw[C.le e']at q;cases q
  ·rcases e' with e'|e'
   ·rcases C.neg h g i e' with q|q
    ·rw[e.1]at q;cases q
    ·rw[q]at e2;cases e2
   ·exact Nat.lt_trans e.2 e'.2
theorem Rp.size (R:Rp k f N st γ):γ.size=N:=by rw[R.perm.size_eq,Array.size_range]
theorem Rp.bnd (R:Rp k f N st γ) {i g:Nat} (e:γ[i]?=some g):g<N:=by
 have hm:g∈γ:=Array.mem_of_getElem? e;exact Array.mem_range.mp (R.perm.mem_iff.mp hm)
theorem Rp.at (R:Rp k f N st γ) {i g:Nat} (e:γ[i]?=some g):(arrOf st)[i]?=some (f g):=by rw[R.arr,Array.getElem?_map,e];rfl
theorem Rp.put (R:Rp k f N st γ) {γ':Array Nat} {x:Array Keyed} (p:γ'.Perm γ) (e:x=γ'.map f):Rp k f N (setArr st x) γ':=⟨e,R.kind,R.fine,p.trans R.perm⟩
theorem lt_ok (C:Cm prog w A s k f N c) (hk:kindOf st=k) {g h:Nat} (bg:g<N) (bh:h<N) {Q:Option Bool->SortSt->Prop} (q:Q (some (c g h)) st):wpS (model prog w) A E s (lt' (f g) (f h)) Q st:=by
 rw[lt'_eq];refine wpS_bind (wpS_get ?_);subst hk;exact wpS_bind (wpS_lift (wpAny_attempt (C.lt _ _ g h bg bh ⟨rfl,wpS_pure q⟩)))
theorem ltAt_ok (C:Cm prog w A s k f N c) (R:Rp k f N st γ) {i j g h:Nat} (ei:γ[i]?=some g) (ej:γ[j]?=some h) {Q:Option Bool->SortSt->Prop} (q:Q (some (c g h)) st):wpS (model prog w) A E s (ltAt' i j) Q st:=by
 rw[ltAt'_eq];refine wpS_bind (wpS_get ?_);dsimp only;rw[elem'_eq,elem'_eq,R.at ei,R.at ej];exact wpS_bind (wpS_pure (wpS_bind (wpS_pure (lt_ok C R.kind (R.bnd ei) (R.bnd ej) q))))
end
end TS
namespace TS
open PySem PyProof.Rows
noncomputable def Sg (c:Nat->Nat->Bool) (γ:Array Nat) (lo hi:Nat):Prop:=∀i j g h,lo<=i->i<j->j<hi->γ[i]?=some g->γ[j]?=some h->Bf c g h
noncomputable def Ow (γ:Array Nat) (lo hi:Nat):Prop:=∀i g,lo<=i->i<hi->γ[i]?=some g->lo<=g/\g<hi
noncomputable def Raw (γ:Array Nat) (lo hi:Nat):Prop:=∀i,lo<=i->i<hi->γ[i]?=some i
noncomputable def Out (γ γ':Array Nat) (lo hi:Nat):Prop:=∀i,i<lo∨hi<=i->γ'[i]?=γ[i]?
theorem Out.refl (γ:Array Nat) (lo hi:Nat):Out γ γ lo hi:=fun _ _=>rfl
section
variable {prog:Program} {w:World} {A:Around} {E:Value->Shared->Prop} {s:Shared} {k:SortKind} {f:Nat->Keyed} {N:Nat} {c:Nat->Nat->Bool} {st:SortSt} {γ:Array Nat}
theorem get_of {γ:Array Nat} {i:Nat} (h:i<γ.size):∃g,γ[i]?=some g:=⟨_,Array.getElem?_eq_getElem h⟩
theorem bins_ok (C:Cm prog w A s k f N c) (R:Rp k f N st γ) {lo n ok:Nat} (hn:lo+n<=N) (h1:1<=ok) (hok:ok<=n) (sg:Sg c γ lo (lo+ok)) (ow:Ow γ lo (lo+ok)) (raw:Raw γ (lo+ok) N)
  {Q:Bool->SortSt->Prop} (q:∀(x:Array Keyed) (γ':Array Nat),Rp k f N (setArr st x) γ'->Sg c γ' lo (lo+n)->Ow γ' lo (lo+n)->Raw γ' (lo+n) N->Out γ γ' lo (lo+n)->Q true (setArr st x)) :
  wpS (model prog w) A E s (binarySort' lo n ok) Q st:=by
 rw[binarySort'_eq]
 refine wpS_bind (wpS_mono (wpS_forRange (I:=fun m r st'=>r=(none,())/\∃x γ',st'=setArr st x/\Rp k f N st' γ'/\Sg c γ' lo (lo+m)/\Ow γ' lo (lo+m)/\Raw γ' (lo+m) N/\Out γ γ' lo (lo+m))
  (Q:=fun r st'=>r=(none,())/\∃x γ',st'=setArr st x/\Rp k f N st' γ'/\Sg c γ' lo (lo+n)/\Ow γ' lo (lo+n)/\Raw γ' (lo+n) N/\Out γ γ' lo (lo+n)) ?step ?fin ?init) ?post)
 case post =>
  rintro r st' ⟨rfl,x,γ',rfl,R',a1,a2,a3,a4⟩;exact wpS_pure (q x γ' R' a1 a2 a3 a4)
 case init =>
  rw[show max ok 1=ok by omega]
  exact⟨rfl,arrOf st,γ,rfl,R,sg,ow,raw,Out.refl _ _ _⟩
 case fin =>
  rintro r st' h;rw[show max (max ok 1) n=n by omega]at h
  exact h
 case step =>
  rintro m r st' hm hmn ⟨rfl,x,γ',rfl,R',a1,a2,a3,a4⟩;have em:γ'[lo+m]?=some (lo+m):=a3 (lo+m) (Nat.le_refl _) (by omega)
  refine wpS_bind (wpS_mono (wpS_forRange (I:=fun y r st''=>st''=setArr st x/\∃l u,r=(none,l,u)/\l<=u/\u<=m/\u-l<=m-y /\
    (∀i g,lo<=i->i<lo+l->γ'[i]?=some g->c (lo+m) g=false)/\(∀i g,lo+u<=i->i<lo+m->γ'[i]?=some g->c (lo+m) g=true))
   (Q:=fun r st''=>st''=setArr st x/\∃l u,r=(none,l,u)/\l<=m /\
    (∀i g,lo<=i->i<lo+l->γ'[i]?=some g->c (lo+m) g=false)/\(∀i g,lo+l<=i->i<lo+m->γ'[i]?=some g->c (lo+m) g=true)) ?istep ?ifin ?iinit) ?ipost)
  case iinit=>exact⟨rfl,0,m,rfl,by omega,by omega,by omega,fun i g p1 p2=>by omega,fun i g p1 p2=>by omega⟩
  case ifin =>
   rintro r st'' ⟨rfl,l,u,rfl,b1,b2,b3,b4,b5⟩;obtain rfl:l=u:=by omega
   exact⟨rfl,l,l,rfl,b2,b4,b5⟩
  case istep =>
   rintro y r st'' _ hy ⟨rfl,l,u,rfl,b1,b2,b3,b4,b5⟩;dsimp only;by_cases hge:l ≥ u
   ·refine wpS_t hge ?_;obtain rfl:l=u:=by omega
    exact wpS_pure ⟨rfl,l,l,rfl,b2,b4,b5⟩
   ·refine wpS_f hge ?_;obtain⟨g,eg⟩:=get_of (γ:=γ') (i:=lo+(l+u) / 2) (by rw[R'.size];omega)
    refine wpS_bind (ltAt_ok C R' em eg ?_);cases hc:c (lo+m) g with
    | true =>
     refine wpS_pure ⟨rfl,l,(l+u) / 2,rfl,by omega,by omega,by omega,b4,fun i g' p1 p2 e=>?_⟩
     by_cases hi:i=lo+(l+u) / 2
     ·subst hi;rw[eg]at e;cases e;exact hc
     ·have bf:=a1 _ i g g' (by omega) (by omega) p2 eg e
      rcases C.neg _ g' _ hc with z|z
      ·exact z
      ·rw[C.le bf]at z;cases z
    | false =>
     refine wpS_pure ⟨rfl,(l+u) / 2+1,u,rfl,by omega,by omega,by omega,fun i g' p1 p2 e=>?_,b5⟩
     by_cases hi:i=lo+(l+u) / 2
     ·subst hi;rw[eg]at e;cases e;exact hc
     ·have bf:=a1 i _ g' g p1 (by omega) (by omega) e eg
      exact C.letr (C.le bf) hc
  case ipost =>
   rintro r st'' ⟨rfl,l,u,rfl,b2,b4,b5⟩;show wpS _ _ _ _ (do moveDown' (lo+m) (lo+l);pure (ForInStep.yield (none,()))) _ _
   rw[moveDown'_eq];have hs:lo+m<γ'.size:=by rw[R'.size];omega
   have gb:=getElem?_bubble hs (lo+m-(lo+l)) (by omega)
   refine wpS_bind (wpS_modify (wpS_pure ⟨rfl,bubble x (lo+m) (lo+m-(lo+l)),bubble γ' (lo+m) (lo+m-(lo+l)),rfl,R'.put (bubble_perm _ _ _) ?_,?_,?_,?_,?_⟩))
   ·rw[R'.arr,bubble_map]
   ·intro i j g h p1 p2 p3 e1 e2;rw[gb,show lo+m - (lo+m - (lo+l))=lo+l by omega]at e1 e2
    by_cases i1:i=lo+l
    ·rw[if_pos i1,em]at e1;rw[if_neg (by omega),if_pos (by omega)]at e2
     cases e1;exact .inl (b5 (j-1) h (by omega) (by omega) e2)
    ·rw[if_neg i1]at e1;by_cases i2:lo+l<i
     ·rw[if_pos (by omega)]at e1
      rw[if_neg (by omega),if_pos (by omega)]at e2
      exact a1 (i-1) (j-1) g h (by omega) (by omega) (by omega) e1 e2
     ·rw[if_neg (by omega)]at e1
      by_cases j1:j=lo+l
      ·rw[if_pos j1,em]at e2;cases e2;exact .inr ⟨b4 i g p1 (by omega) e1,(a2 i g p1 (by omega) e1).2⟩
      ·rw[if_neg j1]at e2;by_cases j2:lo+l<j
       ·rw[if_pos (by omega)]at e2
        exact a1 i (j-1) g h p1 (by omega) (by omega) e1 e2
       ·rw[if_neg (by omega)]at e2
        exact a1 i j g h p1 p2 (by omega) e1 e2
   ·intro i g p1 p2 e;rw[gb,show lo+m - (lo+m - (lo+l))=lo+l by omega]at e
    by_cases i1:i=lo+l
    ·rw[if_pos i1,em]at e;cases e;omega
    ·rw[if_neg i1]at e;by_cases i2:lo+l<i
     ·rw[if_pos (by omega)]at e
      have:=a2 (i-1) g (by omega) (by omega) e
      omega
     ·rw[if_neg (by omega)]at e
      have:=a2 i g p1 (by omega) e
      omega
   ·intro i p1 p2;rw[gb,if_neg (by omega),if_neg (by omega)]
    exact a3 i (by omega) p2
   ·intro i p;rw[gb,if_neg (by omega),if_neg (by omega)]
    exact a4 i (by omega)
end
end TS
namespace TS
open PySem PyProof.Rows
section
variable {prog:Program} {w:World} {A:Around} {E:Value->Shared->Prop} {s:Shared} {k:SortKind} {f:Nat->Keyed} {N:Nat} {c:Nat->Nat->Bool} {st:SortSt} {γ:Array Nat}
theorem Sg.more (C:Cm prog w A s k f N c) {lo n g h:Nat} (sg:Sg c γ lo n) (h1:lo<n) (e:γ[n-1]?=some g) (e':γ[n]?=some h) (b:Bf c g h):Sg c γ lo (n+1):=by
 intro i j g' h' p1 p2 p3 e1 e2;by_cases hj:j<n
 ·exact sg i j g' h' p1 p2 hj e1 e2
 ·obtain rfl:j=n:=by omega
  rw[e']at e2;cases e2;by_cases hi:i=j-1
  ·subst hi;rw[e]at e1;cases e1;exact b
  ·exact C.trans (sg i (j-1) g' g p1 (by omega) (by omega) e1 e) b
theorem asc_step (C:Cm prog w A s k f N c) {lo x h:Nat} (sg:Sg c γ lo (lo+x)) (ow:Ow γ lo (lo+x)) (raw:Raw γ (lo+x) N) (h1:1<=x) (hx:lo+x<N) (e:γ[lo+x-1]?=some h) (hc:c (lo+x) h=false) :
  Sg c γ lo (lo+(x+1))/\Ow γ lo (lo+(x+1))/\Raw γ (lo+(x+1)) N:=by
 have en:=raw (lo+x) (Nat.le_refl _) hx;refine⟨sg.more C (by omega) e en (.inr ⟨hc,(ow _ h (by omega) (by omega) e).2⟩),fun i g p1 p2 e1=>?_,fun i p1 p2=>raw i (by omega) p2⟩
 by_cases hi:i<lo+x
 ·have:=ow i g p1 hi e1;omega
 ·obtain rfl:i=lo+x:=by omega
  rw[en]at e1;cases e1;omega
structure Fl (c:Nat->Nat->Bool) (γ:Array Nat) (lo m n:Nat):Prop where
 le:lo<=m
 lt:m<n
 fall:∀i j g h,lo<=i->i<j->j<m->γ[i]?=some g->γ[j]?=some h->Bf c h g
 cross:∀i j g h,lo<=i->i<m->m<=j->j<n->γ[i]?=some g->γ[j]?=some h->c h g=true
 same:∀i j g h,m<=i->i<n->m<=j->j<n->γ[i]?=some g->γ[j]?=some h->c g h=false
 raw:Raw γ m n
 own:Ow γ lo n
noncomputable def Fa (c:Nat->Nat->Bool) (γ:Array Nat) (lo n:Nat):Prop:=∀i j g h,lo<=i->i<j->j<n->γ[i]?=some g->γ[j]?=some h->Bf c h g
theorem fa_mirror {lo n:Nat} (fa:Fa c γ lo n) (hn:n<=γ.size):Sg c (mirror γ lo n ((n-lo) / 2)) lo n:=by
 intro i j g h p1 p2 p3 e1 e2;rw[getElem?_mirror_all hn,if_pos (by omega)]at e1 e2
 exact fa (lo+n-1-j) (lo+n-1-i) h g (by omega) (by omega) (by omega) e2 e1
theorem ow_mirror {lo a n:Nat} (ow:Ow γ lo n) (ha:lo<=a) (hn:n<=γ.size):Ow (mirror γ a n ((n-a) / 2)) lo n:=by
 intro i g p1 p2 e;rw[getElem?_mirror_all hn]at e;by_cases hi:a<=i
 ·rw[if_pos (by omega)]at e;exact ow (a+n-1-i) g (by omega) (by omega) e
 ·rw[if_neg (by omega)]at e;exact ow i g p1 p2 e
theorem raw_mirror {a n m:Nat} (raw:Raw γ n m) (hn:n<=γ.size):Raw (mirror γ a n ((n-a) / 2)) n m:=by
 intro i p1 p2;rw[getElem?_mirror_all hn,if_neg (by omega)]
 exact raw i p1 p2
theorem out_mirror {lo a n:Nat} {γ':Array Nat} (o:Out γ γ' lo n) (ha:lo<=a) (hn:n<=γ'.size):Out γ (mirror γ' a n ((n-a) / 2)) lo n:=by
 intro i p;rw[getElem?_mirror_all hn,if_neg (by omega)]
 exact o i p
theorem Out.wide {lo n n':Nat} {γ':Array Nat} (o:Out γ γ' lo n) (h:n<=n'):Out γ γ' lo n':=fun i p=>o i (by omega)
theorem Fl.turn {lo m n:Nat} (F:Fl c γ lo m n) (hn:n<=γ.size):Fa c (mirror γ m n ((n-m) / 2)) lo n:=by
 intro i j g h p1 p2 p3 e1 e2;rw[getElem?_mirror_all hn]at e1 e2;by_cases hi:i<m
 ·rw[if_neg (by omega)]at e1
  by_cases hj:j<m
  ·rw[if_neg (by omega)]at e2
   exact F.fall i j g h p1 p2 hj e1 e2
  ·rw[if_pos (by omega)]at e2
   exact .inl (F.cross i (m+n-1-j) g h p1 hi (by omega) (by omega) e1 e2)
 ·rw[if_pos (by omega)]at e1 e2
  refine .inr ⟨F.same (m+n-1-i) (m+n-1-j) g h (by omega) (by omega) (by omega) (by omega) e1 e2,?_⟩
  rw[F.raw (m+n - 1 - i) (by omega) (by omega)]at e1
  rw[F.raw (m+n - 1 - j) (by omega) (by omega)]at e2
  cases e1;cases e2;omega
theorem Fl.fa1 {lo m:Nat} (F:Fl c γ lo m (m+1)):Fa c γ lo (m+1):=by
 intro i j g h p1 p2 p3 e1 e2;by_cases hj:j<m
 ·exact F.fall i j g h p1 p2 hj e1 e2
 ·exact .inl (F.cross i j g h p1 (by omega) (by omega) p3 e1 e2)
theorem Fa.next (C:Cm prog w A s k f N c) {lo n g:Nat} (fa:Fa c γ lo n) (ow:Ow γ lo n) (raw:Raw γ n N) (hl:lo<n) (hn:n<N) (z:∀i g,lo<=i->i<n->γ[i]?=some g->c n g=true):Fl c γ lo n (n+1):=by
 have en:=raw n (Nat.le_refl _) hn;refine⟨by omega,by omega,fa,fun i j g h p1 p2 p3 p4 e1 e2=>?_,fun i j g h p1 p2 p3 p4 e1 e2=>?_,fun i p1 p2=>raw i p1 (by omega),fun i g p1 p2 e=>?_⟩
 ·obtain rfl:j=n:=by omega
  rw[en]at e2;cases e2;exact z i g p1 p2 e1
 ·obtain rfl:i=n:=by omega
  obtain rfl:j=i:=by omega
  rw[en]at e1 e2;cases e1;cases e2;exact C.irr _
 ·by_cases hi:i<n
  ·have:=ow i g p1 hi e;omega
  ·obtain rfl:i=n:=by omega
   rw[en]at e;cases e;omega
theorem Fl.more (C:Cm prog w A s k f N c) {lo m n:Nat} (F:Fl c γ lo m n) (raw:Raw γ n N) (hn:n<N) (z1:c n (n-1)=false) (z2:c (n-1) n=false):Fl c γ lo m (n+1):=by
 have en:=raw n (Nat.le_refl _) hn;have ep:=F.raw (n-1) (by have:=F.lt;omega) (by have:=F.lt;omega)
 have hlt:=F.lt;have hle:=F.le;refine⟨hle,by omega,F.fall,fun i j g h p1 p2 p3 p4 e1 e2=>?_,fun i j g h p1 p2 p3 p4 e1 e2=>?_,fun i p1 p2=>?_,fun i g p1 p2 e=>?_⟩
 ·by_cases hj:j<n
  ·exact F.cross i j g h p1 p2 p3 hj e1 e2
  ·obtain rfl:j=n:=by omega
   rw[en]at e2;cases e2;rcases C.neg _ j _ (F.cross i (j-1) g (j-1) p1 p2 (by omega) (by omega) e1 ep) with q|q
   ·rw[z2]at q;cases q
   ·exact q
 ·have key:∀a g,m<=a->a<n+1->γ[a]?=some g->c g (n-1)=false/\c (n-1) g=false:=by
   intro a g q1 q2 e;by_cases ha:a<n
   ·exact⟨F.same a (n-1) g (n-1) q1 ha (by omega) (by omega) e ep,F.same (n-1) a (n-1) g (by omega) (by omega) q1 ha ep e⟩
   ·obtain rfl:a=n:=by omega
    rw[en]at e;cases e;exact⟨z1,z2⟩
  exact C.letr (key j h p3 p4 e2).2 (key i g p1 p2 e1).1
 ·by_cases hi:i<n
  ·exact F.raw i p1 hi
  ·exact raw i (by omega) (by omega)
 ·by_cases hi:i<n
  ·have:=F.own i g p1 hi e;omega
  ·obtain rfl:i=n:=by omega
   rw[en]at e;cases e;omega
theorem Fl.below (C:Cm prog w A s k f N c) {lo m n x:Nat} (F:Fl c γ lo m n) (z:c x (n-1)=true):∀i g,lo<=i->i<n->γ[i]?=some g->c x g=true:=by
 have hlt:=F.lt;have ep:=F.raw (n-1) (by omega) (by omega)
 intro i g p1 p2 e;rcases C.neg x g _ z with q|q
 ·exact q
 ·by_cases hi:i<m
  ·exact absurd (F.cross i (n-1) g (n-1) p1 hi (by omega) (by omega) e ep) (by rw[C.asy q];exact Bool.noConfusion)
  ·rw[F.same i (n - 1) g (n - 1) (by omega) p2 (by omega) (by omega) e ep]at q;cases q
noncomputable def Rn (k:SortKind) (f:Nat->Keyed) (N:Nat) (c:Nat->Nat->Bool) (lo:Nat) (st:SortSt) (γ:Array Nat) (n:Nat) (st':SortSt):Prop :=
 ∃x γ',st'=setArr st x/\Rp k f N st' γ'/\Sg c γ' lo (lo+n)/\Ow γ' lo (lo+n)/\Raw γ' (lo+n) N/\Out γ γ' lo (lo+n)
noncomputable def tailP (lo n nrem:Nat):StateT SortSt Sem (Option Nat):=do
 reverseSlice' lo (lo+n)
 let r ← forIn [n:nrem] ((none,n):Option (Option Nat)×Nat) fun _ r=>do
  match ← ltAt' (lo+r.2) (lo+r.2-1) with
  | some smaller=>if smaller=true then pure (ForInStep.done (none,r.2)) else pure (ForInStep.yield (none,r.2+1))
  | _=>pure (ForInStep.done (some none,r.2))
 match r.1 with
 | some z=>pure z
 | none=>pure (some r.2)
noncomputable def fallP (lo x nrem:Nat):StateT SortSt Sem (Option Nat):=do
 liftM (rule "list.sort.descending-run")
 let r ← forIn [x+1:nrem] ((none,x+1,0):Option (Option Nat)×Nat×Nat) fun _ r=>do
  match ← ltAt' (lo+r.2.1) (lo+r.2.1-1) with
  | some smaller =>
   if smaller=true then
    if r.2.2 > 0 then do
     reverseSlice' (lo+r.2.1-(r.2.2+1)) (lo+r.2.1)
     pure (ForInStep.yield (none,r.2.1+1,0))
    else pure (ForInStep.yield (none,r.2.1+1,0))
   else do
    match ← ltAt' (lo+r.2.1-1) (lo+r.2.1) with
    | some larger=>if larger=true then pure (ForInStep.done (none,r.2.1,r.2.2)) else pure (ForInStep.yield (none,r.2.1+1,r.2.2+1))
    | _=>pure (ForInStep.done (some none,r.2.1,r.2.2))
  | _=>pure (ForInStep.done (some none,r.2.1,r.2.2))
 match r.1 with
 | some z=>pure z
 | none =>
  if r.2.2 > 0 then do
   reverseSlice' (lo+r.2.1-(r.2.2+1)) (lo+r.2.1)
   tailP lo r.2.1 nrem
  else tailP lo r.2.1 nrem
theorem rev_ok {i j:Nat} {Q:Unit->SortSt->Prop} (h:Q () (setArr st (mirror (arrOf st) i j ((j-i) / 2)))):wpS (model prog w) A E s (reverseSlice' i j) Q st:=by
 rw[reverseSlice'_eq];exact wpS_modify h
theorem tail_ok (C:Cm prog w A s k f N c) {st₀:SortSt} {γ₀:Array Nat} {lo n:Nat} {y:Array Keyed} (R:Rp k f N (setArr st₀ y) γ) (h1:1<=n) (hn:lo+n<=N) (fa:Fa c γ lo (lo+n)) (ow:Ow γ lo (lo+n)) (raw:Raw γ (lo+n) N) (out:Out γ₀ γ lo (lo+n))
  {Q:Option Nat->SortSt->Prop} (q:∀n st',1<=n->lo+n<=N->Rn k f N c lo st₀ γ₀ n st'->Q (some n) st'):wpS (model prog w) A E s (tailP lo n (N-lo)) Q (setArr st₀ y):=by
 have hs:lo+n<=γ.size:=by rw[R.size];exact hn
 refine wpS_bind (rev_ok ?_);have R1:Rp k f N (setArr st₀ (mirror y lo (lo+n) ((lo+n-lo) / 2))) (mirror γ lo (lo+n) ((lo+n-lo) / 2)):=R.put (mirror_perm _ _ _ _) (by rw[show y=γ.map f from R.arr,mirror_map])
 have sg:=fa_mirror fa hs;have ow':=ow_mirror ow (Nat.le_refl lo) hs;have raw':=raw_mirror (a:=lo) raw hs;have out':=out_mirror out (Nat.le_refl lo) hs;generalize mirror γ lo (lo+n) ((lo+n-lo) / 2)=δ at R1 sg ow' raw' out';generalize mirror y lo (lo+n) ((lo+n-lo) / 2)=y' at R1
 refine wpS_bind (wpS_mono (wpS_forRange (I:=fun x r st'=>st'=setArr st₀ y'/\r=(none,x)/\n<=x/\lo+x<=N/\Sg c δ lo (lo+x)/\Ow δ lo (lo+x)/\Raw δ (lo+x) N)
  (Q:=fun r st'=>st'=setArr st₀ y'/\∃x,r=(none,x)/\n<=x/\lo+x<=N/\Sg c δ lo (lo+x)/\Ow δ lo (lo+x)/\Raw δ (lo+x) N) ?step ?fin ?init) ?post)
 case init=>exact⟨rfl,rfl,Nat.le_refl _,hn,sg,ow',raw'⟩
 case fin =>
  rintro r st' ⟨rfl,rfl,b1,b2,b3,b4,b5⟩;exact⟨rfl,_,rfl,b1,b2,b3,b4,b5⟩
 case step =>
  rintro x r st' p1 p2 ⟨rfl,rfl,b1,b2,b3,b4,b5⟩;dsimp only;have en:=b5 (lo+x) (by omega) (by omega)
  obtain⟨g,ep⟩:=get_of (γ:=δ) (i:=lo+x-1) (by rw[R1.size];omega)
  refine wpS_bind (ltAt_ok C R1 en ep ?_);cases hc:c (lo+x) g with
  | true=>exact wpS_pure ⟨rfl,x,rfl,b1,b2,b3,b4,b5⟩
  | false =>
   obtain⟨a1,a2,a3⟩:=asc_step C b3 b4 b5 (by omega) (by omega) ep hc
   exact wpS_pure ⟨rfl,rfl,by omega,by omega,a1,a2,a3⟩
 case post =>
  rintro r st' ⟨rfl,x,rfl,b1,b2,b3,b4,b5⟩;exact wpS_pure (q x _ (by omega) b2 ⟨y',δ,rfl,R1,b3,b4,b5,out'.wide (by omega)⟩)
theorem fall_ok (C:Cm prog w A s k f N c) {st₀:SortSt} {γ₀:Array Nat} {lo x:Nat} {y:Array Keyed} (R:Rp k f N (setArr st₀ y) γ) (hx:lo+x<N) (F:Fl c γ lo (lo+x) (lo+x+1)) (raw:Raw γ (lo+x+1) N) (out:Out γ₀ γ lo (lo+x+1))
  {Q:Option Nat->SortSt->Prop} (q:∀n st',1<=n->lo+n<=N->Rn k f N c lo st₀ γ₀ n st'->Q (some n) st'):wpS (model prog w) A E s (fallP lo x (N-lo)) Q (setArr st₀ y):=by
 refine wpS_bind (wpS_lift (wpAny_rule ⟨rfl,?_⟩))
 refine wpS_bind (wpS_mono (wpS_forRange (I:=fun n r st'=>∃e y' δ,r=(none,n,e)/\st'=setArr st₀ y'/\Rp k f N (setArr st₀ y') δ/\e+1<=n/\lo+n<=N/\Fl c δ lo (lo+n-(e+1)) (lo+n)/\Raw δ (lo+n) N/\Out γ₀ δ lo (lo+n))
  (Q:=fun r st'=>∃n e y' δ,r=(none,n,e)/\st'=setArr st₀ y'/\Rp k f N (setArr st₀ y') δ/\e+1<=n/\lo+n<=N/\Fl c δ lo (lo+n-(e+1)) (lo+n)/\Raw δ (lo+n) N/\Out γ₀ δ lo (lo+n)) ?step ?fin ?init) ?post)
 case init=>exact⟨0,y,γ,rfl,rfl,R,by omega,by omega,F,raw,out⟩
 case fin =>
  rintro r st' ⟨e,y',δ,h⟩;exact⟨_,e,y',δ,h⟩
 case step =>
  rintro n r st' p1 p2 ⟨e,y',δ,rfl,rfl,R1,b1,b2,F1,raw1,out1⟩;dsimp only;have en:=raw1 (lo+n) (Nat.le_refl _) (by omega)
  have ep:=F1.raw (lo+n-1) (by omega) (by omega)
  have hs:lo+n<=δ.size:=by rw[R1.size];exact b2
  refine wpS_bind (ltAt_ok C R1 en ep ?_);cases hc:c (lo+n) (lo+n-1) with
  | true =>
   dsimp only;refine wpS_t rfl ?_;have bl:=F1.below C hc;by_cases he:e > 0
   ·refine wpS_t he ?_;refine wpS_bind (rev_ok (wpS_pure ?_));have fa:=F1.turn hs;have ow':=ow_mirror F1.own F1.le hs;have raw':=raw_mirror (a:=lo+n-(e+1)) raw1 hs;have out':=out_mirror out1 F1.le hs;refine⟨0,_,mirror δ (lo+n-(e+1)) (lo+n) ((lo+n-(lo+n-(e+1))) / 2),rfl,rfl,R1.put (mirror_perm _ _ _ _) (by rw[show arrOf (setArr st₀ y')=δ.map f from R1.arr,mirror_map]),by omega,by omega,?_,fun i q1 q2=>raw' i (by omega) q2,out'.wide (by omega)⟩
    refine fa.next C (g:=0) ow' raw' (by omega) (by omega) fun i g q1 q2 e1=>?_
    rw[getElem?_mirror_all hs]at e1;by_cases hi:lo+n-(e+1)<=i
    ·rw[if_pos (by omega)]at e1;exact bl _ g (by omega) (by omega) e1
    ·rw[if_neg (by omega)]at e1;exact bl i g q1 q2 e1
   ·obtain rfl:e=0:=by omega
    refine wpS_f he ?_;have F2:Fl c δ lo (lo+n - 1) (lo+n - 1+1):=by rw[show lo+n - 1+1=lo+n by omega];exact F1
    have fa:=F2.fa1;rw[show lo+n - 1+1=lo+n by omega]at fa
    exact wpS_pure ⟨0,y',δ,rfl,rfl,R1,by omega,by omega,fa.next C (g:=0) F1.own raw1 (by omega) (by omega) bl,fun i q1 q2=>raw1 i (by omega) q2,out1.wide (by omega)⟩
  | false =>
   dsimp only;refine wpS_f Bool.noConfusion ?_;refine wpS_bind (ltAt_ok C R1 ep en ?_);cases hc2:c (lo+n-1) (lo+n) with
   | true=>exact wpS_pure ⟨n,e,y',δ,rfl,rfl,R1,b1,b2,F1,raw1,out1⟩
   | false =>
    refine wpS_pure ⟨e+1,y',δ,rfl,rfl,R1,by omega,by omega,?_,fun i q1 q2=>raw1 i (by omega) q2,out1.wide (by omega)⟩
    rw[show lo+(n+1) - (e+1+1)=lo+n - (e+1) by omega]
    exact F1.more C raw1 (by omega) hc hc2
 case post =>
  rintro r st' ⟨n,e,y',δ,rfl,rfl,R1,b1,b2,F1,raw1,out1⟩;have hs:lo+n<=δ.size:=by rw[R1.size];exact b2
  dsimp only;by_cases he:e > 0
  ·refine wpS_t he ?_;refine wpS_bind (rev_ok ?_);exact tail_ok C (γ:=mirror δ (lo+n-(e+1)) (lo+n) ((lo+n-(lo+n-(e+1))) / 2)) (R1.put (mirror_perm _ _ _ _) (by rw[show arrOf (setArr st₀ y')=δ.map f from R1.arr,mirror_map])) (by omega) b2 (F1.turn hs) (ow_mirror F1.own F1.le hs) (raw_mirror (a:=lo+n-(e+1)) raw1 hs) (out_mirror out1 F1.le hs) q
  ·obtain rfl:e=0:=by omega
   refine wpS_f he ?_;have F2:Fl c δ lo (lo+n - 1) (lo+n - 1+1):=by rw[show lo+n - 1+1=lo+n by omega];exact F1
   have fa:=F2.fa1;rw[show lo+n - 1+1=lo+n by omega]at fa
   exact tail_ok C R1 (by omega) b2 fa F1.own raw1 out1 q
theorem run_ok (C : Cm prog w A s k f N c) (R : Rp k f N st γ) {lo : Nat} (hl : lo < N) (raw : Raw γ lo N)
    {Q : Option Nat → SortSt → Prop} (q : ∀ n st', 1 ≤ n → lo + n ≤ N → Rn k f N c lo st γ n st' → Q (some n) st') : wpS (model prog w) A E s (countRun' lo (N - lo)) Q st := by
  rw [countRun'_eq];have sg1 : Sg c γ lo (lo + 1) := fun i j g h p1 p2 p3 => by omega
  have ow1 : Ow γ lo (lo + 1) := fun i g p1 p2 e => by
    obtain rfl : i = lo := by omega
    rw [raw i (Nat.le_refl _) hl] at e; cases e; omega
  refine wpS_bind (wpS_mono (wpS_forRange (I := fun x r st' => st' = st ∧ r = (none, x) ∧ 1 ≤ x ∧ lo + x ≤ N ∧ Sg c γ lo (lo + x) ∧ Ow γ lo (lo + x) ∧ ∀ i g h, lo ≤ i → i + 1 < lo + x → γ[i]? = some g → γ[i + 1]? = some h → c h g = false)
    (Q := fun r st' => st' = st ∧ ∃ x, r = (none, x) ∧ 1 ≤ x ∧ lo + x ≤ N ∧ Sg c γ lo (lo + x) ∧ Ow γ lo (lo + x) ∧ (lo + x = N ∨ c (lo + x) (lo + x - 1) = true)) ?step ?fin ?init) ?post)
  case init => exact ⟨rfl, rfl, by omega, by omega, sg1, ow1, fun i g h p1 p2 => by omega⟩
  case fin =>
    rintro r st' ⟨rfl, rfl, b1, b2, b3, b4, b5⟩;exact ⟨rfl, _, rfl, b1, b2, b3, b4, .inl (by omega)⟩
  case step =>
    rintro x r st' p1 p2 ⟨rfl, rfl, b1, b2, b3, b4, b5⟩;dsimp only;have en := raw (lo + x) (by omega) (by omega)
    have ep := raw (lo + x - 1) (by omega) (by omega)
    refine wpS_bind (ltAt_ok C R en ep ?_);cases hc : c (lo + x) (lo + x - 1) with
    | true => exact wpS_pure ⟨rfl, x, rfl, b1, b2, b3, b4, .inr hc⟩
    | false =>
      obtain ⟨a1, a2, _⟩ := asc_step C b3 b4 (fun i q1 q2 => raw i (by omega) q2) b1 (by omega) ep hc
      refine wpS_pure ⟨rfl, rfl, by omega, by omega, a1, a2, fun i g h q1 q2 e1 e2 => ?_⟩
      rw [raw i q1 (by omega)] at e1
      rw [raw (i + 1) (by omega) (by omega)] at e2
      cases e1; cases e2;by_cases hi : i + 1 < lo + x
      · exact b5 i i (i + 1) q1 hi (raw _ q1 (by omega)) (raw _ (by omega) (by omega))
      · obtain rfl : i = lo + x - 1 := by omega
        rw [show lo + x - 1 + 1 = lo + x by omega]; exact hc
  case post =>
    rintro r st' ⟨rfl, x, rfl, b1, b2, b3, b4, b6⟩;dsimp only;by_cases hx : lo + x = N
    · refine wpS_t (by simp; omega) ?_
      exact wpS_pure (q x _ b1 b2 ⟨_, γ, rfl, R, b3, b4, fun i q1 q2 => raw i (by omega) q2, Out.refl _ _ _⟩)
    · refine wpS_f (by simp; omega) ?_
      have hc : c (lo + x) (lo + x - 1) = true := b6.resolve_left hx;have hs : lo + x ≤ γ.size := by rw [R.size]; exact b2
      have raw' : Raw γ (lo + x) N := fun i q1 q2 => raw i (by omega) q2
      by_cases h1 : x > 1
      · refine wpS_t h1 ?_
        refine wpS_bind (ltAt_ok C R (raw lo (Nat.le_refl _) hl) (raw (lo + x - 1) (by omega) (by omega)) ?_)
        cases hr : c lo (lo + x - 1) with
        | true => exact wpS_pure (q x _ b1 b2 ⟨_, γ, rfl, R, b3, b4, raw', Out.refl _ _ _⟩)
        | false =>
          dsimp only;refine wpS_f Bool.noConfusion ?_;have le : ∀ a b, lo ≤ a → a < lo + x → lo ≤ b → b < lo + x → a ≤ b → c b a = false := fun a b p1 p2 p3 p4 p5 => by
            by_cases ab : a = b
            · subst ab; exact C.irr _
            · exact C.le (b3 a b a b p1 (by omega) p4 (raw a p1 (by omega)) (raw b p3 (by omega)))
          have al : ∀ a b, lo ≤ a → a < lo + x → lo ≤ b → b < lo + x → c a b = false := fun a b p1 p2 p3 p4 => by
            by_cases ab : b ≤ a
            · exact le b a p3 p4 p1 p2 ab
            · cases hab : c a b with
              | false => rfl
              | true =>
                rcases C.neg a lo b hab with z | z
                · rw [le lo a (Nat.le_refl _) (by omega) p1 p2 p1] at z; exact z.symm
                · rcases C.neg lo (lo + x - 1) b z with z | z
                  · rw [hr] at z; exact z.symm
                  · rw [le b (lo + x - 1) p3 p4 (by omega) (by omega) (by omega)] at z; exact z.symm
          have F0 : Fl c γ lo lo (lo + x) := ⟨Nat.le_refl _, by omega, fun i j g h p1 p2 p3 => by omega, fun i j g h p1 p2 => by omega, fun i j g h p1 p2 p3 p4 e1 e2 => by
            rw [raw i p1 (by omega)] at e1
            rw [raw j p3 (by omega)] at e2
            cases e1; cases e2
            exact al i j p1 p2 p3 p4, fun i p1 p2 => raw i p1 (by omega), b4⟩
          refine wpS_bind (rev_ok ?_);refine (show ∀ {m : StateT SortSt Sem (Option Nat)} {t : SortSt}, m = fallP lo x (N - lo) → wpS (model prog w) A E s (fallP lo x (N - lo)) Q t → wpS (model prog w) A E s m Q t from fun e h => e ▸ h) ?_
            (fall_ok C (st₀ := st') (γ₀ := γ) (γ := mirror γ lo (lo + x) ((lo + x - lo) / 2)) (R.put (mirror_perm _ _ _ _) (by rw [R.arr, mirror_map])) (by omega)
              ((F0.turn hs).next C (g := 0) (ow_mirror b4 (Nat.le_refl _) hs) (raw_mirror (a := lo) raw' hs) (by omega) (by omega) fun i g p1 p2 e => ?_) (fun i q1 q2 => raw_mirror (a := lo) raw' hs i (by omega) q2) ((out_mirror (Out.refl γ lo (lo + x)) (Nat.le_refl _) hs).wide (by omega)) q)
          · unfold fallP tailP
            congr 1; funext _v; congr 1; funext z;obtain ⟨z1, z2, z3⟩ := z;cases z1 with
            | some z1 => rfl
            | none =>
              dsimp only;split
              · congr 1; funext _y; congr 1; funext _u; congr 1; funext z
                obtain ⟨z1, z2⟩ := z;cases z1 <;> rfl
              · congr 1; funext _u; congr 1; funext z
                obtain ⟨z1, z2⟩ := z;cases z1 <;> rfl
          · rw [getElem?_mirror_all hs, if_pos (by omega)] at e
            exact F0.below C hc _ g (by omega) (by omega) e
      · obtain rfl : x = 1 := by omega
        refine wpS_f h1 ?_;have fa : Fa c γ lo (lo + 1) := fun i j g h p1 p2 p3 => by omega
        refine (show ∀ {m : StateT SortSt Sem (Option Nat)}, m = fallP lo 1 (N - lo) → wpS (model prog w) A E s (fallP lo 1 (N - lo)) Q st' → wpS (model prog w) A E s m Q st' from fun e h => e ▸ h) ?_ (fall_ok C (st₀ := st') (y := arrOf st') (γ₀ := γ) (γ := γ) R (by omega) (fa.next C (g := 0) b4 raw' (by omega) (by omega) fun i g p1 p2 e => ?_) (fun i q1 q2 => raw i (by omega) q2) (Out.refl _ _ _) q)
        · unfold fallP tailP
          congr 1; funext _v; congr 1; funext z;obtain ⟨z1, z2, z3⟩ := z;cases z1 with
          | some z1 => rfl
          | none =>
            dsimp only;split
            · congr 1; funext _y; congr 1; funext _u; congr 1; funext z
              obtain ⟨z1, z2⟩ := z;cases z1 <;> rfl
            · congr 1; funext _u; congr 1; funext z
              obtain ⟨z1, z2⟩ := z;cases z1 <;> rfl
        obtain rfl : i = lo := by omega
        rw [raw i (Nat.le_refl _) hl] at e; cases e;exact hc
end
end TS
namespace TS
open PySem PyProof.Rows
noncomputable def By (left:Bool) (key:Keyed) (arr:Array Keyed) (base i:Nat):StateT SortSt Sem (Option Bool):=do
 let p ← elem' arr (base+i)
 if left then lt' p key else return (← lt' key p).map (!·)
noncomputable def gal:Bool->Keyed->Array Keyed->Nat->Nat->Nat->StateT SortSt Sem (Option Nat):=sortPriv% PySem.Builtin.gallop
section
variable {prog:Program} {w:World} {A:Around} {E:Value->Shared->Prop} {s:Shared} {k:SortKind} {f:Nat->Keyed} {N:Nat} {c:Nat->Nat->Bool} {st:SortSt} {δ:Array Nat}
noncomputable def bb (c:Nat->Nat->Bool) (left:Bool) (t g:Nat):Bool:=if left then c g t else !c t g
theorem by_ok (C:Cm prog w A s k f N c) (hk:kindOf st=k) {left:Bool} {t base i g:Nat} (ht:t<N) (hg:g<N) (e:δ[base+i]?=some g) {Q:Option Bool->SortSt->Prop} (q:Q (some (bb c left t g)) st) :
  wpS (model prog w) A E s (By left (f t) (δ.map f) base i) Q st:=by
 unfold By;rw[elem'_eq,Array.getElem?_map,e];refine wpS_bind (wpS_pure ?_);cases left with
 | true=>exact lt_ok C hk hg ht q
 | false=>exact wpS_bind (lt_ok C hk ht hg (wpS_pure q))
noncomputable def galF (left:Bool) (key:Keyed) (arr:Array Keyed) (base n l h:Nat):StateT SortSt Sem (Option Nat):=do
 let r ← forIn [0:n] ((none,l,h):Option (Option Nat)×Nat×Nat) fun _ r=>do
  if r.2.1 ≥ r.2.2 then pure (ForInStep.done (none,r.2.1,r.2.2)) else do
   match ← By left key arr base (r.2.1+(r.2.2-r.2.1) / 2) with
   | some mo=>if mo=true then pure (ForInStep.yield (none,r.2.1+(r.2.2-r.2.1) / 2+1,r.2.2)) else pure (ForInStep.yield (none,r.2.1,r.2.1+(r.2.2-r.2.1) / 2))
   | _=>pure (ForInStep.done (some none,r.2.1,r.2.2))
 match r.1 with
 | some z=>pure z
 | none=>pure (some r.2.2)
noncomputable def Tr (c:Nat->Nat->Bool) (left:Bool) (t base:Nat) (δ:Array Nat) (m:Nat):Prop:=∀(i g:Nat),base<=i->i<base+m->δ[i]?=some g->bb c left t g=true
noncomputable def Fs (c:Nat->Nat->Bool) (left:Bool) (t base n:Nat) (δ:Array Nat) (m:Nat):Prop:=∀(i g:Nat),base+m<=i->i<base+n->δ[i]?=some g->bb c left t g=false
noncomputable def Mo (c:Nat->Nat->Bool) (left:Bool) (t base n:Nat) (δ:Array Nat):Prop:=∀(i j g h:Nat),base<=i->i<j->j<base+n->δ[i]?=some g->δ[j]?=some h->bb c left t h=true->bb c left t g=true
theorem Mo.tr {left:Bool} {t base n m g:Nat} (mo:Mo c left t base n δ) (hm:m<n) (e:δ[base+m]?=some g) (h:bb c left t g=true):Tr c left t base δ (m+1):=by
 intro i g' p1 p2 e';by_cases hi:i=base+m
 ·subst hi;rw[e]at e';cases e';exact h
 ·exact mo i (base+m) g' g p1 (by omega) (by omega) e' e h
theorem Mo.fs {left:Bool} {t base n m g:Nat} (mo:Mo c left t base n δ) (hm:m<n) (e:δ[base+m]?=some g) (h:bb c left t g=false):Fs c left t base n δ m:=by
 intro i g' p1 p2 e';by_cases hi:i=base+m
 ·subst hi;rw[e]at e';cases e';exact h
 ·cases z:bb c left t g' with
  | false=>rfl
  | true=>exact absurd (mo (base+m) i g g' (by omega) (by omega) p2 e e' z) (by rw[h];exact Bool.noConfusion)
theorem galF_ok (C:Cm prog w A s k f N c) (hk:kindOf st=k) {left:Bool} {t base n l h:Nat} (ht:t<N) (hb:∀(i g:Nat),δ[i]?=some g->g<N) (hs:base+n<=δ.size) (mo:Mo c left t base n δ)
  (h1:l<=h) (h2:h<=n) (tr:Tr c left t base δ l) (fs:Fs c left t base n δ h) {Q:Option Nat->SortSt->Prop} (q:∀m,m<=n->Tr c left t base δ m->Fs c left t base n δ m->Q (some m) st) :
  wpS (model prog w) A E s (galF left (f t) (δ.map f) base n l h) Q st:=by
 refine wpS_bind (wpS_mono (wpS_forRange (I:=fun x r st'=>st'=st/\∃l h,r=(none,l,h)/\l<=h/\h<=n/\h-l<=n-x/\Tr c left t base δ l/\Fs c left t base n δ h)
  (Q:=fun r st'=>st'=st/\∃l,r=(none,l,l)/\l<=n/\Tr c left t base δ l/\Fs c left t base n δ l) ?step ?fin ?init) ?post)
 case init=>exact⟨rfl,l,h,rfl,h1,h2,by omega,tr,fs⟩
 case fin =>
  rintro r st' ⟨rfl,l,h,rfl,b1,b2,b3,b4,b5⟩;obtain rfl:l=h:=by omega
  exact⟨rfl,l,rfl,b2,b4,b5⟩
 case step =>
  rintro x r st' p1 p2 ⟨rfl,l,h,rfl,b1,b2,b3,b4,b5⟩;dsimp only;by_cases hlh:l ≥ h
  ·refine wpS_t hlh ?_;obtain rfl:l=h:=by omega
   exact wpS_pure ⟨rfl,l,rfl,b2,b4,b5⟩
  ·refine wpS_f hlh ?_;obtain⟨g,e⟩:=get_of (γ:=δ) (i:=base+(l+(h-l) / 2)) (by omega)
   refine wpS_bind (by_ok C hk ht (hb _ _ e) e ?_);cases hc:bb c left t g with
   | true=>exact wpS_pure ⟨rfl,_,_,rfl,by omega,b2,by omega,mo.tr (by omega) e hc,b5⟩
   | false=>exact wpS_pure ⟨rfl,_,_,rfl,by omega,by omega,by omega,b4,mo.fs (by omega) e hc⟩
 case post =>
  rintro r st' ⟨rfl,l,rfl,b1,b2,b3⟩;exact wpS_pure (q l b1 b2 b3)
theorem gal_ok (C:Cm prog w A s k f N c) (hk:kindOf st=k) {left:Bool} {t base n hint:Nat} (ht:t<N) (hb:∀(i g:Nat),δ[i]?=some g->g<N) (hs:base+n<=δ.size) (hh:hint<n) (mo:Mo c left t base n δ)
  {Q:Option Nat->SortSt->Prop} (q:∀m,m<=n->Tr c left t base δ m->Fs c left t base n δ m->Q (some m) st) :
  wpS (model prog w) A E s (gal left (f t) (δ.map f) base n hint) Q st:=by
 obtain⟨g0,e0⟩:=get_of (γ:=δ) (i:=base+hint) (by omega)
 refine wpS_bind (by_ok C hk ht (hb _ _ e0) e0 ?_);have sw:∀{m m':StateT SortSt Sem (Option Nat)},m=m'->wpS (model prog w) A E s m' Q st->wpS (model prog w) A E s m Q st:=fun e h=>e ▸ h;dsimp only;cases hc:bb c left t g0 with
 | true =>
  refine wpS_t rfl ?_
  refine wpS_bind (wpS_mono (wpS_forRange (I:=fun x r st'=>st'=st/\∃a o,r=(none,a,o)/\a<o/\x<o/\a<n-hint/\Tr c left t base δ (hint+a+1))
   (Q:=fun r st'=>st'=st/\∃a o,r=(none,a,o)/\a<o/\a<n-hint/\Tr c left t base δ (hint+a+1)/\(n-hint<=o∨Fs c left t base n δ (hint+o))) ?step ?fin ?init) ?post)
  case init=>exact⟨rfl,0,1,rfl,by omega,by omega,by omega,mo.tr hh e0 hc⟩
  case fin =>
   rintro r st' ⟨rfl,a,o,rfl,b1,b2,b3,b4⟩;exact⟨rfl,a,o,rfl,b1,b3,b4,.inl (by omega)⟩
  case step =>
   rintro x r st' p1 p2 ⟨rfl,a,o,rfl,b1,b2,b3,b4⟩;dsimp only;by_cases ho:o ≥ n-hint
   ·refine wpS_t ho ?_;exact wpS_pure ⟨rfl,a,o,rfl,b1,b3,b4,.inl ho⟩
   ·refine wpS_f ho ?_;obtain⟨g,e⟩:=get_of (γ:=δ) (i:=base+(hint+o)) (by omega)
    refine wpS_bind (by_ok C hk ht (hb _ _ e) e ?_);cases hc:bb c left t g with
    | true=>exact wpS_pure ⟨rfl,o,2*o+1,rfl,by omega,by omega,by omega,mo.tr (by omega) e hc⟩
    | false=>exact wpS_pure ⟨rfl,a,o,rfl,b1,b3,b4,.inr (mo.fs (by omega) e hc)⟩
  case post =>
   rintro r st' ⟨rfl,a,o,rfl,b1,b3,b4,b5⟩;refine sw (m':=galF left (f t) (δ.map f) base n (hint+a+1) (hint+min o (n-hint))) (by unfold galF;dsimp only;congr 1;funext z;obtain⟨z1,z2,z3⟩:=z;cases z1<;>rfl) (galF_ok C hk ht hb hs mo (by omega) (by omega) b4 ?_ q)
   by_cases ho:n-hint<=o
   ·intro i g p1 p2;omega
   ·rw[show min o (n - hint)=o by omega]
    exact b5.resolve_left ho
 | false =>
  refine wpS_f Bool.noConfusion ?_
  refine wpS_bind (wpS_mono (wpS_forRange (I:=fun x r st'=>st'=st/\∃a o,r=(none,a,o)/\a<o/\x<o/\a<hint+1/\Fs c left t base n δ (hint-a))
   (Q:=fun r st'=>st'=st/\∃a o,r=(none,a,o)/\a<o/\a<hint+1/\Fs c left t base n δ (hint-a)/\(hint+1<=o∨Tr c left t base δ (hint-o+1))) ?step ?fin ?init) ?post)
  case init=>exact⟨rfl,0,1,rfl,by omega,by omega,by omega,mo.fs hh e0 hc⟩
  case fin =>
   rintro r st' ⟨rfl,a,o,rfl,b1,b2,b3,b4⟩;exact⟨rfl,a,o,rfl,b1,b3,b4,.inl (by omega)⟩
  case step =>
   rintro x r st' p1 p2 ⟨rfl,a,o,rfl,b1,b2,b3,b4⟩;dsimp only;by_cases ho:o ≥ hint+1
   ·refine wpS_t ho ?_;exact wpS_pure ⟨rfl,a,o,rfl,b1,b3,b4,.inl ho⟩
   ·refine wpS_f ho ?_;obtain⟨g,e⟩:=get_of (γ:=δ) (i:=base+(hint-o)) (by omega)
    refine wpS_bind (by_ok C hk ht (hb _ _ e) e ?_);cases hc:bb c left t g with
    | true=>exact wpS_pure ⟨rfl,a,o,rfl,b1,b3,b4,.inr (mo.tr (by omega) e hc)⟩
    | false=>exact wpS_pure ⟨rfl,o,2*o+1,rfl,by omega,by omega,by omega,mo.fs (by omega) e hc⟩
  case post =>
   rintro r st' ⟨rfl,a,o,rfl,b1,b3,b4,b5⟩;refine sw (m':=galF left (f t) (δ.map f) base n (hint+1-min o (hint+1)) (hint-a)) (by unfold galF;dsimp only;congr 1;funext z;obtain⟨z1,z2,z3⟩:=z;cases z1<;>rfl) (galF_ok C hk ht hb hs mo (by omega) (by omega) ?_ b4 q)
   by_cases ho:hint+1<=o
   ·intro i g p1 p2;omega
   ·rw[show hint+1 - min o (hint+1)=hint - o+1 by omega]
    exact b5.resolve_left ho
end
end TS
namespace TS
open PySem PyProof.Rows
structure Mg (c:Nat->Nat->Bool) (α β ω la lb:List Nat):Prop where
 so:ω.Pairwise (Bf c)
 sa:la.Pairwise (Bf c)
 sb:lb.Pairwise (Bf c)
 xa:∀g∈ω,∀h∈la,Bf c g h
 xb:∀g∈ω,∀h∈lb,Bf c g h
 tag:∀g∈la,∀h∈lb,g<h
 perm:(ω++la++lb).Perm (α++β)
noncomputable def Gd (c:Nat->Nat->Bool) (α β l:List Nat):Prop:=l.Pairwise (Bf c)/\l.Perm (α++β)
section
variable {prog:Program} {w:World} {A:Around} {s:Shared} {k:SortKind} {f:Nat->Keyed} {N:Nat} {c:Nat->Nat->Bool} {α β ω la lb:List Nat} {x y:Nat}
theorem Mg.takeB (C:Cm prog w A s k f N c) (J:Mg c α β ω (x::la) (y::lb)) (h:c y x=true):Mg c α β (ω++[y]) (x::la) lb:=by
 have sa:=List.pairwise_cons.mp J.sa;have sb:=List.pairwise_cons.mp J.sb;have ya:∀z∈x::la,Bf c y z:=fun z hz=>by
  rcases List.mem_cons.mp hz with rfl|hz
  ·exact .inl h
  ·exact C.trans (.inl h) (sa.1 z hz)
 refine⟨?_,J.sa,sb.2,fun g hg z hz=>?_,fun g hg z hz=>?_,fun g hg z hz=>J.tag g hg z (List.mem_cons_of_mem _ hz),?_⟩
 ·rw[List.pairwise_append];exact⟨J.so,List.pairwise_singleton _ _,fun g hg z hz=>by rw[List.mem_singleton.mp hz];exact J.xb g hg y List.mem_cons_self⟩
 ·rcases List.mem_append.mp hg with hg|hg
  ·exact J.xa g hg z hz
  ·rw[List.mem_singleton.mp hg];exact ya z hz
 ·rcases List.mem_append.mp hg with hg|hg
  ·exact J.xb g hg z (List.mem_cons_of_mem _ hz)
  ·rw[List.mem_singleton.mp hg];exact sb.1 z hz
 ·refine List.Perm.trans ?_ J.perm;rw[List.append_assoc,List.append_assoc,List.append_assoc];refine List.Perm.append_left ω ?_;exact(List.perm_middle (l₁:=x::la) (a:=y) (l₂:=lb)).symm
theorem Mg.takeA (C:Cm prog w A s k f N c) (J:Mg c α β ω (x::la) (y::lb)) (h:c y x=false):Mg c α β (ω++[x]) la (y::lb):=by
 have sa:=List.pairwise_cons.mp J.sa;have sb:=List.pairwise_cons.mp J.sb;have xy:Bf c x y:=.inr ⟨h,J.tag x List.mem_cons_self y List.mem_cons_self⟩;refine⟨?_,sa.2,J.sb,fun g hg z hz=>?_,fun g hg z hz=>?_,fun g hg z hz=>J.tag g (List.mem_cons_of_mem _ hg) z hz,?_⟩
 ·rw[List.pairwise_append];exact⟨J.so,List.pairwise_singleton _ _,fun g hg z hz=>by rw[List.mem_singleton.mp hz];exact J.xa g hg x List.mem_cons_self⟩
 ·rcases List.mem_append.mp hg with hg|hg
  ·exact J.xa g hg z (List.mem_cons_of_mem _ hz)
  ·rw[List.mem_singleton.mp hg];exact sa.1 z hz
 ·rcases List.mem_append.mp hg with hg|hg
  ·exact J.xb g hg z hz
  ·rw[List.mem_singleton.mp hg];rcases List.mem_cons.mp hz with rfl|hz
   ·exact xy
   ·exact C.trans xy (sb.1 z hz)
 ·refine List.Perm.trans ?_ J.perm;rw[List.append_assoc ω [x] la];exact List.Perm.refl _
theorem Mg.takeAs (C:Cm prog w A s k f N c):∀(l:List Nat) {ω la:List Nat},Mg c α β ω (l++la) (y::lb)->(∀g∈l,c y g=false)->Mg c α β (ω++l) la (y::lb)
 | [],ω,la,J,_=>by rw[List.append_nil];exact J
 | x::l,ω,la,J,h=>by
  have:=Mg.takeAs C l (J.takeA C (h x List.mem_cons_self)) fun g hg=>h g (List.mem_cons_of_mem _ hg);rwa [List.append_assoc]at this
theorem Mg.takeBs (C:Cm prog w A s k f N c):∀(l:List Nat) {ω lb:List Nat},Mg c α β ω (x::la) (l++lb)->(∀g∈l,c g x=true)->Mg c α β (ω++l) (x::la) lb
 | [],ω,lb,J,_=>by rw[List.append_nil];exact J
 | y::l,ω,lb,J,h=>by
  have:=Mg.takeBs C l (J.takeB C (h y List.mem_cons_self)) fun g hg=>h g (List.mem_cons_of_mem _ hg);rwa [List.append_assoc]at this
theorem Mg.doneA (J:Mg c α β ω la []):Gd c α β (ω++la):=by
 refine⟨List.pairwise_append.mpr ⟨J.so,J.sa,J.xa⟩,?_⟩;have:=J.perm;rwa [List.append_nil]at this
theorem Mg.doneB (J:Mg c α β ω [] lb):Gd c α β (ω++lb):=by
 refine⟨List.pairwise_append.mpr ⟨J.so,J.sb,J.xb⟩,?_⟩;have:=J.perm;rwa [List.append_nil]at this
theorem Mg.last (C:Cm prog w A s k f N c) (J:Mg c α β ω [x] lb) (h:∀g∈lb,c g x=true):Gd c α β (ω++lb++[x]):=by
 have J':Mg c α β ω [x] (lb++[]):=by rw[List.append_nil];exact J
 exact(J'.takeBs C lb h).doneA
end
end TS
namespace TS
open PySem PyProof.Rows
noncomputable def ar (f:Nat->Keyed) (l:List Nat):Array Keyed:=l.toArray.map f
noncomputable def Lw (f:Nat->Keyed) (c:Nat->Nat->Bool) (α β:List Nat) (o:Array Keyed) (i j:Nat):Prop:=∃ω,o=ar f ω/\Mg c α β ω (α.drop i) (β.drop j)
noncomputable def Rt (f:Nat->Keyed) (c:Nat->Nat->Bool) (α β:List Nat) (o:Array Keyed):Prop:=∃l,o=ar f l/\Gd c α β l
section
variable {prog:Program} {w:World} {A:Around} {s:Shared} {k:SortKind} {f:Nat->Keyed} {N:Nat} {c:Nat->Nat->Bool} {α β:List Nat} {o:Array Keyed} {i j x y:Nat}
theorem ar_size (l:List Nat):(ar f l).size=l.length:=by simp[ar]
theorem ar_push (l:List Nat) (g:Nat):(ar f l).push (f g)=ar f (l++[g]):=by simp[ar]
theorem ar_app (l m:List Nat):ar f l++ar f m=ar f (l++m):=by simp[ar]
theorem ar_cut (l:List Nat) (p q:Nat):(ar f l).extract p q=ar f ((l.drop p).take (q-p)):=by simp[ar,List.extract]
theorem ar_end (l:List Nat) (p:Nat):(ar f l).extract p (ar f l).size=ar f (l.drop p):=by
 rw[ar_cut,ar_size,List.take_of_length_le (by rw[List.length_drop];exact Nat.le_refl _)]
theorem ar_at {l:List Nat} {p g:Nat} (e:l[p]?=some g):(ar f l)[p]?=some (f g):=by simp[ar,e]
theorem dropc {l:List Nat} {p g:Nat} (e:l[p]?=some g):l.drop p=g::l.drop (p+1):=by
 obtain⟨h,rfl⟩:=List.getElem?_eq_some_iff.mp e;exact List.drop_eq_getElem_cons h
theorem Lw.b (C:Cm prog w A s k f N c) (L:Lw f c α β o i j) (hx:α[i]?=some x) (hy:β[j]?=some y) (h:c y x=true):Lw f c α β (o.push (f y)) i (j+1):=by
 obtain⟨ω,rfl,J⟩:=L;refine⟨ω++[y],ar_push _ _,?_⟩;rw[dropc hx]at J ⊢;rw[dropc hy]at J;exact J.takeB C h
theorem Lw.a (C:Cm prog w A s k f N c) (L:Lw f c α β o i j) (hx:α[i]?=some x) (hy:β[j]?=some y) (h:c y x=false):Lw f c α β (o.push (f x)) (i+1) j:=by
 obtain⟨ω,rfl,J⟩:=L;refine⟨ω++[x],ar_push _ _,?_⟩;rw[dropc hy]at J ⊢;rw[dropc hx]at J;exact J.takeA C h
theorem Lw.as (C:Cm prog w A s k f N c) (L:Lw f c α β o i j) (hy:β[j]?=some y) {u:Nat} (h:∀p g,i<=p->p<i+u->α[p]?=some g->c y g=false):Lw f c α β (o++(ar f α).extract i (i+u)) (i+u) j:=by
 obtain⟨ω,rfl,J⟩:=L;refine⟨ω++(α.drop i).take u,by rw[ar_cut,show i+u - i=u by omega,ar_app],?_⟩
 rw[dropc hy]at J ⊢;refine Mg.takeAs C _ (la:=α.drop (i+u)) (by rw[← List.drop_drop,List.take_append_drop];exact J) fun g hg=>?_
 obtain⟨p,hp⟩:=List.mem_iff_getElem?.mp hg;rw[List.getElem?_take]at hp;split at hp
 ·rw[List.getElem?_drop]at hp;exact h (i+p) g (by omega) (by omega) hp
 ·cases hp
theorem Lw.bs (C:Cm prog w A s k f N c) (L:Lw f c α β o i j) (hx:α[i]?=some x) {u:Nat} (h:∀p g,j<=p->p<j+u->β[p]?=some g->c g x=true):Lw f c α β (o++(ar f β).extract j (j+u)) i (j+u):=by
 obtain⟨ω,rfl,J⟩:=L;refine⟨ω++(β.drop j).take u,by rw[ar_cut,show j+u - j=u by omega,ar_app],?_⟩
 rw[dropc hx]at J ⊢;refine Mg.takeBs C _ (lb:=β.drop (j+u)) (by rw[← List.drop_drop (i:=u) (j:=j),List.take_append_drop];exact J) fun g hg=>?_
 obtain⟨p,hp⟩:=List.mem_iff_getElem?.mp hg;rw[List.getElem?_take]at hp;split at hp
 ·rw[List.getElem?_drop]at hp;exact h (j+p) g (by omega) (by omega) hp
 ·cases hp
theorem Lw.dn (L:Lw f c α β o i j) (h:j=β.length∨i=α.length):Rt f c α β (o++(ar f α).extract i (ar f α).size++(ar f β).extract j (ar f β).size):=by
 obtain⟨ω,rfl,J⟩:=L;rw[ar_end,ar_end,ar_app,ar_app];refine⟨_,rfl,?_⟩;rcases h with rfl|rfl
 ·rw[List.drop_length]at J ⊢;rw[List.append_nil];exact J.doneA
 ·rw[List.drop_length]at J ⊢;rw[List.append_nil];exact J.doneB
theorem Lw.la (C:Cm prog w A s k f N c) (L:Lw f c α β o i j) (hx:α[i]?=some x) (h:i+1=α.length) (z:∀g∈β,c g x=true):Rt f c α β (o++(ar f β).extract j (ar f β).size++(ar f α).extract i (ar f α).size):=by
 obtain⟨ω,rfl,J⟩:=L;rw[ar_end,ar_end,ar_app,ar_app];refine⟨_,rfl,?_⟩;rw[dropc hx,h,List.drop_length]at J ⊢;exact J.last C fun g hg=>z g (List.mem_of_mem_drop hg)
end
end TS
namespace TS
open PySem PyProof.Rows
inductive Ex2 {A B R:Type} (g:A->B->R) (p:A->B->Prop):R->Prop|mk (a b) (h:p a b):Ex2 g p (g a b)
inductive Ex4 {A B C D R:Type} (g:A->B->C->D->R) (p:A->B->C->D->Prop):R->Prop|mk (a b c d) (h:p a b c d):Ex4 g p (g a b c d)
inductive Ex5 {A B C D E R:Type} (g:A->B->C->D->E->R) (p:A->B->C->D->E->Prop):R->Prop|mk (a b c d e) (h:p a b c d e):Ex5 g p (g a b c d e)
inductive Ex6 {A B C D E F R:Type} (g:A->B->C->D->E->F->R) (p:A->B->C->D->E->F->Prop):R->Prop|mk (a b c d e f) (h:p a b c d e f):Ex6 g p (g a b c d e f)
theorem and4 {a b c d P:Prop} (h:a/\b/\c/\d) (k:a->b->c->d->P):P:=k h.1 h.2.1 h.2.2.1 h.2.2.2
theorem and6 {a b c d e f P:Prop} (h:a/\b/\c/\d/\e/\f) (k:a->b->c->d->e->f->P):P:=k h.1 h.2.1 h.2.2.1 h.2.2.2.1 h.2.2.2.2.1 h.2.2.2.2.2
noncomputable def mlo:Array Keyed->Array Keyed->StateT SortSt Sem (Array Keyed):=sortPriv% PySem.Builtin.mergeLo
structure Sm (a b:SortSt):Prop where
 arr:arrOf b=arrOf a
 kind:kindOf b=kindOf a
 pend:pendingOf b=pendingOf a
 fine:failedOf b=failedOf a
theorem wpS_all_jp {M:Model} {A:Around} {E:Value->Shared->Prop} {s:Shared} {σ γ:Type} {B:Nat->StateT σ Sem γ} {p:Prop} {d:Decidable p} {m2:Nat} {Q:γ->σ->Prop} {st:σ} (h:∀m,wpS M A E s (B m) Q st):∀m1,wpS M A E s (@ite _ p d (B m1) (B m2)) Q st:=by
 intro m1;by_cases hp:p
 ·rw[if_pos hp];exact h _
 ·rw[if_neg hp];exact h _
theorem wpS_cut {M:Model} {A:Around} {E:Value->Shared->Prop} {s:Shared} {σ γ:Type} {X:StateT σ Sem γ} {B:Array Keyed->Nat->StateT σ Sem γ} {p:Prop} {d:Decidable p} {o:Array Keyed} {i:Nat} {Q:γ->σ->Prop} {st:σ} (I:Array Keyed->Nat->Prop)
  (h:p->(∀o i,I o i->wpS M A E s (B o i) Q st)->wpS M A E s X Q st) (g:¬ p->I o i) (hB:∀o i,I o i->wpS M A E s (B o i) Q st):wpS M A E s (@ite _ p d X (B o i)) Q st:=by
 by_cases hp:p
 ·rw[if_pos hp];exact h hp hB
 ·rw[if_neg hp];exact hB _ _ (g hp)
section
variable {prog:Program} {w:World} {A:Around} {E:Value->Shared->Prop} {s:Shared} {k:SortKind} {f:Nat->Keyed} {N:Nat} {c:Nat->Nat->Bool} {st:SortSt} {α β:List Nat}
theorem Sm.refl (a:SortSt):Sm a a:=⟨rfl,rfl,rfl,rfl⟩
theorem Sm.trans {a b d:SortSt} (x:Sm a b) (y:Sm b d):Sm a d:=⟨y.arr.trans x.arr,y.kind.trans x.kind,y.pend.trans x.pend,y.fine.trans x.fine⟩
structure Two (c:Nat->Nat->Bool) (N:Nat) (α β:List Nat):Prop where
 sa:α.Pairwise (Bf c)
 sb:β.Pairwise (Bf c)
 tag:∀g∈α,∀h∈β,g<h
 ba:∀g∈α,g<N
 bb:∀g∈β,g<N
 na:α≠[]
 nb:β≠[]
 first:∀x y,α[0]?=some x->β[0]?=some y->c y x=true
 last:∀x,α[α.length-1]?=some x->∀g∈β,c g x=true
theorem el_ok {l:List Nat} {i g:Nat} (e:l[i]?=some g) {Q:Keyed->SortSt->Prop} (q:Q (f g) st):wpS (model prog w) A E s (elem' (ar f l) i) Q st:=by
 rw[elem'_eq,ar_at e];exact wpS_pure q
theorem mo_false (C:Cm prog w A s k f N c) {l:List Nat} (hs:l.Pairwise (Bf c)) (t base n:Nat):Mo c false t base n l.toArray:=by
 intro i j g h p1 p2 p3 e1 e2 z;have e1':l[i]?=some g:=by simpa using e1
 have e2':l[j]?=some h:=by simpa using e2
 obtain⟨hi,rfl⟩:=List.getElem?_eq_some_iff.mp e1';obtain⟨hj,rfl⟩:=List.getElem?_eq_some_iff.mp e2';have b:=C.le (List.pairwise_iff_getElem.mp hs i j hi hj p2);simp only[bb,Bool.false_eq_true,if_false,Bool.not_eq_true']at z ⊢;cases z2:c t l[i] with
 | false=>rfl
 | true =>
  rcases C.neg t l[j] l[i] z2 with q|q
  ·rw[z]at q;cases q
  ·rw[b]at q;cases q
theorem mo_true (C:Cm prog w A s k f N c) {l:List Nat} (hs:l.Pairwise (Bf c)) (t base n:Nat):Mo c true t base n l.toArray:=by
 intro i j g h p1 p2 p3 e1 e2 z;have e1':l[i]?=some g:=by simpa using e1
 have e2':l[j]?=some h:=by simpa using e2
 obtain⟨hi,rfl⟩:=List.getElem?_eq_some_iff.mp e1';obtain⟨hj,rfl⟩:=List.getElem?_eq_some_iff.mp e2';have b:=C.le (List.pairwise_iff_getElem.mp hs i j hi hj p2);simp only[bb,if_true]at z ⊢;rcases C.neg l[j] l[i] t z with q|q
 ·rw[b]at q;cases q
 ·exact q
theorem glo_ok (C:Cm prog w A s k f N c) (hk:kindOf st=k) {l:List Nat} (hs:l.Pairwise (Bf c)) (hb:∀g∈l,g<N) {left:Bool} {t base n hint:Nat} (ht:t<N) (hz:base+n<=l.length) (hh:hint<n)
  {Q:Option Nat->SortSt->Prop} (q:∀m,m<=n->(∀i g,base<=i->i<base+m->l[i]?=some g->bb c left t g=true)->(∀i g,base+m<=i->i<base+n->l[i]?=some g->bb c left t g=false)->Q (some m) st) :
  wpS (model prog w) A E s ((sortPriv% PySem.Builtin.gallop) left (f t) (ar f l) base n hint) Q st:=by
 show wpS (model prog w) A E s (gal left (f t) (ar f l) base n hint) Q st;have mo:Mo c left t base n l.toArray:=by
  cases left with
  | true=>exact mo_true C hs t base n
  | false=>exact mo_false C hs t base n
 refine gal_ok C hk ht (δ:=l.toArray) (fun i g e=>hb g ?_) (by simpa using hz) hh mo fun m h1 h2 h3=>q m h1 (fun i g p1 p2 e=>h2 i g p1 p2 (by simpa using e)) fun i g p1 p2 e=>h3 i g p1 p2 (by simpa using e)
 exact List.mem_of_getElem? (by simpa using e)
theorem sg_ok {g:Nat} {Q:Unit->SortSt->Prop} (q:∀st',Sm st st'->Q ⟨⟩ st'):wpS (model prog w) A E s ((sortPriv% PySem.Builtin.setMinGallop) g) Q st:=wpS_modify (q _ ⟨rfl,rfl,rfl,rfl⟩)
theorem Lw.dn' {o:Array Keyed} {i j:Nat} (L:Lw f c α β o i j) (h:j=β.length∨i=α.length):Rt f c α β (o++(ar f α).extract i α.length++(ar f β).extract j β.length):=by
 have:=L.dn h;rwa [ar_size,ar_size]at this
theorem Lw.la' (C:Cm prog w A s k f N c) (T:Two c N α β) {o:Array Keyed} {i j:Nat} (L:Lw f c α β o i j) (h:i+1=α.length):Rt f c α β (o++(ar f β).extract j β.length++(ar f α).extract i α.length):=by
 obtain⟨x,hx⟩:∃x,α[i]?=some x:=⟨_,List.getElem?_eq_getElem (by omega)⟩
 have:=L.la C hx h (T.last x (by rw[← h];exact hx))
 rwa [ar_size,ar_size]at this
theorem mlo_ok (C:Cm prog w A s k f N c) (hk:kindOf st=k) (T:Two c N α β) {Q:Array Keyed->SortSt->Prop} (q:∀o st',Sm st st'->Rt f c α β o->Q o st'):wpS (model prog w) A E s (mlo (ar f α) (ar f β)) Q st:=by
 have la:0<α.length:=List.length_pos_iff.mpr T.na;have lb:0<β.length:=List.length_pos_iff.mpr T.nb;obtain⟨x0,hx0⟩:∃x,α[0]?=some x:=⟨_,List.getElem?_eq_getElem la⟩;obtain⟨y0,hy0⟩:∃y,β[0]?=some y:=⟨_,List.getElem?_eq_getElem lb⟩;obtain⟨xl,hxl⟩:∃x,α[α.length-1]?=some x:=⟨_,List.getElem?_eq_getElem (by omega)⟩
 have M0:Mg c α β [] α β:=⟨List.Pairwise.nil,T.sa,T.sb,fun g hg=>by simp at hg,fun g hg=>by simp at hg,T.tag,List.Perm.refl _⟩
 have L0:Lw f c α β #[] 0 0:=⟨[],by simp[ar],by simpa using M0⟩
 have L1:Lw f c α β #[f y0] 0 1:=by have:=L0.b C hx0 hy0 (T.first _ _ hx0 hy0);simpa using this
 refine wpS_bind (wpS_lift (wpAny_rule ⟨rfl,?_⟩));refine wpS_bind (el_ok hy0 ?_);rw[ar_size,ar_size];by_cases h1:(1 == β.length)=true
 ·refine wpS_t h1 ?_;have:=L1.dn (.inl (by simpa using h1))
  rw[ar_size,ar_size]at this;exact wpS_pure (q _ _ (Sm.refl _) this)
 ·refine wpS_f h1 ?_;by_cases h2:(0+1 == α.length)=true
  ·refine wpS_t h2 ?_;have e2:α.length=1:=by have:=eq_of_beq h2;omega
   have:=L1.la C hx0 (by omega) (fun g hg=>T.last x0 (by rw[e2];exact hx0) g hg)
   rw[ar_size,ar_size]at this;exact wpS_pure (q _ _ (Sm.refl _) this)
  ·refine wpS_f h2 ?_;have h1':β.length≠1:=fun e=>h1 (by rw[e];rfl)
   have h2':α.length≠1:=fun e=>h2 (by rw[e];rfl)
   refine wpS_bind (wpS_get ?_)
   refine wpS_bind (wpS_mono (wpS_forRange (I:=fun x r st'=>Sm st st'/\Ex4 (fun o i j m=>(none,o,i,j,m)) (fun o i j _=>Lw f c α β o i j/\i+1<α.length/\j<β.length/\x<i+j) r)
    (Q:=fun r st'=>Sm st st'/\Ex2 (fun o rest=>(some o,rest)) (fun o _=>Rt f c α β o) r) ?step ?fin ?init) ?post)
   case init=>exact⟨Sm.refl _,_,_,_,_,L1,by omega,by omega,by omega⟩
   case fin =>
    rintro r st' ⟨sm,o,i,j,m,L,b1,b2,b3⟩;omega
   case post =>
    rintro r st' ⟨sm,o,rest,R⟩;exact wpS_pure (q _ _ sm R)
   case step =>
    rintro x r st' p1 p2 ⟨sm,o,i,j,m,hI⟩;refine and4 hI fun L b1 b2 b3=>?_;dsimp (config:={ zeta:=false,zetaHave:=false }) only;have hk':kindOf st'=k:=sm.kind.trans hk
    refine wpS_bind (wpS_mono (wpS_forRange (I:=fun y r st2=>st2=st'/\Ex5 (fun o' i' j' a b=>(none,o',i',j',a,b)) (fun o' i' j' _ _=>Lw f c α β o' i' j'/\i'+1<α.length/\j'<β.length/\i'+j'=i+j+y) r)
     (Q:=fun r st2=>st2=st'/\(Ex2 (fun o' rest=>(some o',rest)) (fun o' _=>Rt f c α β o') r∨Ex5 (fun o' i' j' a b=>(none,o',i',j',a,b)) (fun o' i' j' _ _=>Lw f c α β o' i' j'/\i'+1<α.length/\j'<β.length/\i+j<i'+j') r)) ?step1 ?fin1 ?init1) ?post1)
    case init1=>exact⟨rfl,_,_,_,_,_,L,b1,b2,rfl⟩
    case fin1 =>
     rintro r st2 ⟨rfl,o',i',j',a,b,L',c1,c2,c3⟩;omega
    case step1 =>
     rintro y r st2 q1 q2 ⟨rfl,o',i',j',a,b,hI⟩;refine and4 hI fun L' c1 c2 c3=>?_;dsimp (config:={ zeta:=false,zetaHave:=false }) only;obtain⟨xv,hx⟩:∃x,α[i']?=some x:=⟨_,List.getElem?_eq_getElem (by omega)⟩
     obtain⟨yv,hy⟩:∃y,β[j']?=some y:=⟨_,List.getElem?_eq_getElem c2⟩;refine wpS_bind (el_ok hy (wpS_bind (el_ok hx (wpS_bind (lt_ok C hk' (T.bb _ (List.mem_of_getElem? hy)) (T.ba _ (List.mem_of_getElem? hx)) ?_)))));cases hc:c yv xv with
     | true =>
      have L2:=L'.b C hx hy hc;dsimp (config:={ zeta:=false,zetaHave:=false }) only;refine wpS_t rfl ?_;refine wpS_bind (el_ok hy ?_);by_cases e1:(j'+1 == β.length)=true
      ·refine wpS_t e1 ?_;exact wpS_pure ⟨rfl,.inl ⟨_,_,L2.dn' (.inl (eq_of_beq e1))⟩⟩
      ·refine wpS_f e1 ?_;have e1':j'+1≠β.length:=fun z=>e1 (by rw[z];exact beq_self_eq_true _)
       split
       ·exact wpS_pure ⟨rfl,.inr ⟨_,_,_,_,_,L2,c1,by omega,by omega⟩⟩
       ·exact wpS_pure ⟨rfl,_,_,_,_,_,L2,c1,by omega,by omega⟩
     | false =>
      have L2:=L'.a C hx hy hc;dsimp (config:={ zeta:=false,zetaHave:=false }) only;refine wpS_f Bool.noConfusion ?_;refine wpS_bind (el_ok hx ?_);by_cases e1:(i'+1+1 == α.length)=true
      ·refine wpS_t e1 ?_;exact wpS_pure ⟨rfl,.inl ⟨_,_,L2.la' C T (eq_of_beq e1)⟩⟩
      ·refine wpS_f e1 ?_;have e1':i'+1+1≠α.length:=fun z=>e1 (by rw[z];exact beq_self_eq_true _)
       split
       ·exact wpS_pure ⟨rfl,.inr ⟨_,_,_,_,_,L2,by omega,c2,by omega⟩⟩
       ·exact wpS_pure ⟨rfl,_,_,_,_,_,L2,by omega,c2,by omega⟩
    case post1 =>
     rintro r st2 ⟨rfl,⟨o',rest,R⟩|⟨o',i',j',a,b,hI⟩⟩
     ·exact wpS_pure ⟨sm,o',_,R⟩
     refine and4 hI fun L' c1 c2 c3=>?_;dsimp (config:={ zeta:=false,zetaHave:=false }) only;refine wpS_bind (wpS_lift (wpAny_rule ⟨rfl,?_⟩))
     refine wpS_bind (wpS_mono (wpS_forRange (I:=fun y r st3=>Sm st st3/\Ex6 (fun o2 i2 j2 m2 a2 b2=>(none,o2,i2,j2,m2,a2,b2)) (fun o2 i2 j2 _ _ _=>Lw f c α β o2 i2 j2/\i2+1<α.length/\j2<β.length/\i'+j'+y<=i2+j2) r)
      (Q:=fun r st3=>Sm st st3/\(Ex2 (fun o2 rest=>(some o2,rest)) (fun o2 _=>Rt f c α β o2) r∨Ex6 (fun o2 i2 j2 m2 a2 b2=>(none,o2,i2,j2,m2,a2,b2)) (fun o2 i2 j2 _ _ _=>Lw f c α β o2 i2 j2/\i2+1<α.length/\j2<β.length/\i'+j'<=i2+j2) r)) ?step2 ?fin2 ?init2) ?post2)
     case init2=>exact⟨sm,_,_,_,_,_,_,L',c1,c2,Nat.le_refl _⟩
     case fin2 =>
      rintro r st3 ⟨sm3,o2,i2,j2,m2,a2,b2,L2,d1,d2,d3⟩;omega
     case post2 =>
      rintro r st3 ⟨sm3,⟨o2,rest,R⟩|⟨o2,i2,j2,m2,a2,b2,hI⟩⟩
      ·exact wpS_pure ⟨sm3,o2,_,R⟩
      refine and4 hI fun L2 d1 d2 d3=>?_;dsimp only;refine wpS_bind (wpS_modify ?_);exact wpS_pure ⟨sm3.trans ⟨rfl,rfl,rfl,rfl⟩,_,_,_,_,L2,d1,d2,by omega⟩
     case step2 =>
      rintro y r st3 q1 q2 ⟨sm3,o2,i2,j2,m2,a2,b2,hI⟩;refine and4 hI fun L2 d1 d2 d3=>?_;dsimp only;obtain⟨yv,hy⟩:∃y,β[j2]?=some y:=⟨_,List.getElem?_eq_getElem d2⟩;have hyN:=T.bb _ (List.mem_of_getElem? hy);generalize m2-1=m1;revert m1;apply wpS_all_jp;intro m3;refine wpS_bind (sg_ok fun st4 sm4'=>?_);have sm4:Sm st st4:=sm3.trans sm4';have hk4:kindOf st4=k:=sm4.kind.trans hk;refine wpS_bind (el_ok hy ?_);refine wpS_bind (glo_ok C hk4 T.sa T.ba hyN (left:=false) (base:=i2) (n:=α.length-i2) (hint:=0) (by omega) (by omega) fun u hu tr fs=>?_)
      have L3:=L2.as C hy (u:=u) fun p g z1 z2 z3=>by simpa[bb]using tr p g z1 z2 z3
      dsimp only;apply wpS_cut (o:=o2) (i:=i2) (I:=fun o i=>Lw f c α β o i j2/\i=i2+u/\i+1<α.length)
      case g=>exact fun hu0=>⟨L2,by omega,d1⟩
      case h =>
       intro _ key;by_cases e1:(i2+u+1 == α.length)=true
       ·refine wpS_t e1 ?_;exact wpS_pure ⟨sm4,.inl ⟨_,_,L3.la' C T (eq_of_beq e1)⟩⟩
       refine wpS_f e1 ?_;by_cases e2:(i2+u == α.length)=true
       ·refine wpS_t e2 ?_;exact wpS_pure ⟨sm4,.inl ⟨_,_,L3.dn' (.inr (eq_of_beq e2))⟩⟩
       refine wpS_f e2 ?_;rw[beq_iff_eq]at e1 e2;exact key (o2++(ar f α).extract i2 (i2+u)) (i2+u) ⟨L3,rfl,by omega⟩
      rintro o i ⟨L3,hi,hl⟩;obtain⟨xv,hx⟩:∃x,α[i]?=some x:=⟨_,List.getElem?_eq_getElem (by omega)⟩
      have hxN:=T.ba _ (List.mem_of_getElem? hx);have hcb:c yv xv=true:=by simpa[bb]using fs i xv (by omega) (by omega) hx
      have L4:=L3.b C hx hy hcb;refine wpS_bind (el_ok hy ?_);obtain⟨j4,hj4⟩:∃j4,j4=j2+1:=⟨_,rfl⟩;rw[← hj4]at L4 ⊢;generalize o.push (f yv)=o4 at L4 ⊢;by_cases e3:(j4 == β.length)=true
      ·refine wpS_t e3 ?_;exact wpS_pure ⟨sm4,.inl ⟨_,_,L4.dn' (.inl (eq_of_beq e3))⟩⟩
      refine wpS_f e3 ?_;rw[beq_iff_eq]at e3;refine wpS_bind (el_ok hx ?_);refine wpS_bind (glo_ok C hk4 T.sb T.bb hxN (left:=true) (base:=j4) (n:=β.length-j4) (hint:=0) (by omega) (by omega) fun v hv tr2 fs2=>?_)
      have L5:=L4.bs C hx (u:=v) fun p g z1 z2 z3=>by simpa[bb]using tr2 p g z1 z2 z3
      dsimp only;apply wpS_cut (o:=o4) (i:=j4) (I:=fun o j=>Lw f c α β o i j/\j=j4+v/\j<β.length)
      case g=>exact fun hv0=>⟨L4,by omega,by omega⟩
      case h =>
       intro _ key;by_cases e4:(j4+v == β.length)=true
       ·refine wpS_t e4 ?_;exact wpS_pure ⟨sm4,.inl ⟨_,_,L5.dn' (.inl (eq_of_beq e4))⟩⟩
       refine wpS_f e4 ?_;rw[beq_iff_eq]at e4;exact key (o4++(ar f β).extract j4 (j4+v)) (j4+v) ⟨L5,rfl,by omega⟩
      rintro o5 j5 ⟨L5,hj5,hl5⟩;obtain⟨y2,hy2⟩:∃y,β[j5]?=some y:=⟨_,List.getElem?_eq_getElem hl5⟩;have hca:c y2 xv=false:=by simpa[bb]using fs2 j5 y2 (by omega) (by omega) hy2
      have L6:=L5.a C hx hy2 hca;refine wpS_bind (el_ok hx ?_);by_cases e5:(i+1+1 == α.length)=true
      ·refine wpS_t e5 ?_;exact wpS_pure ⟨sm4,.inl ⟨_,_,L6.la' C T (eq_of_beq e5)⟩⟩
      refine wpS_f e5 ?_;rw[beq_iff_eq]at e5;have w1:i+1+1<α.length:=by omega
      split
      ·exact wpS_pure ⟨sm4,.inr ⟨_,_,_,_,_,_,L6,w1,hl5,by omega⟩⟩
      ·exact wpS_pure ⟨sm4,_,_,_,_,_,_,L6,w1,hl5,by omega⟩
end
end TS
namespace TS
open PySem PyProof.Rows
structure Mh (c:Nat->Nat->Bool) (α β la lb ω:List Nat):Prop where
 so:ω.Pairwise (Bf c)
 sa:la.Pairwise (Bf c)
 sb:lb.Pairwise (Bf c)
 xa:∀g∈la,∀h∈ω,Bf c g h
 xb:∀g∈lb,∀h∈ω,Bf c g h
 tag:∀g∈la,∀h∈lb,g<h
 perm:(la++lb++ω).Perm (α++β)
section
variable {prog:Program} {w:World} {A:Around} {s:Shared} {k:SortKind} {f:Nat->Keyed} {N:Nat} {c:Nat->Nat->Bool} {α β ω la lb:List Nat} {x y:Nat}
theorem pw_last {l:List Nat} (h:(l++[x]).Pairwise (Bf c)):l.Pairwise (Bf c)/\∀g∈l,Bf c g x:=by
 have:=List.pairwise_append.mp h;exact⟨this.1,fun g hg=>this.2.2 g hg x (List.mem_singleton.mpr rfl)⟩
theorem Mh.takeA (C:Cm prog w A s k f N c) (J:Mh c α β (la++[x]) (lb++[y]) ω) (h:c y x=true):Mh c α β la (lb++[y]) (x::ω):=by
 have sa:=pw_last J.sa;have sb:=pw_last J.sb;refine⟨List.pairwise_cons.mpr ⟨fun g hg=>J.xa x (by simp) g hg,J.so⟩,sa.1,J.sb,fun g hg z hz=>?_,fun g hg z hz=>?_,fun g hg z hz=>J.tag g (by simp[hg]) z hz,?_⟩
 ·rcases List.mem_cons.mp hz with rfl|hz
  ·exact sa.2 g hg
  ·exact J.xa g (by simp[hg]) z hz
 ·rcases List.mem_cons.mp hz with rfl|hz
  ·rcases List.mem_append.mp hg with hg|hg
   ·exact C.trans (sb.2 g hg) (.inl h)
   ·rw[List.mem_singleton.mp hg];exact .inl h
  ·exact J.xb g hg z hz
 ·refine List.Perm.trans ?_ J.perm;have p:(la++(lb++[y])++x::ω).Perm (x::(la++(lb++[y])++ω)):=List.perm_middle;have q:(la++[x]++(lb++[y])++ω).Perm (x::(la++(lb++[y])++ω)):=by
   rw[List.append_assoc la,List.append_assoc la];exact List.perm_middle.trans (by rw[List.append_assoc la];exact List.Perm.refl _)
  exact p.trans q.symm
theorem Mh.takeB (C:Cm prog w A s k f N c) (J:Mh c α β (la++[x]) (lb++[y]) ω) (h:c y x=false):Mh c α β (la++[x]) lb (y::ω):=by
 have sa:=pw_last J.sa;have sb:=pw_last J.sb;have xy:Bf c x y:=.inr ⟨h,J.tag x (by simp) y (by simp)⟩
 refine⟨List.pairwise_cons.mpr ⟨fun g hg=>J.xb y (by simp) g hg,J.so⟩,J.sa,sb.1,fun g hg z hz=>?_,fun g hg z hz=>?_,fun g hg z hz=>J.tag g hg z (by simp[hz]),?_⟩
 ·rcases List.mem_cons.mp hz with rfl|hz
  ·rcases List.mem_append.mp hg with hg|hg
   ·exact C.trans (sa.2 g hg) xy
   ·rw[List.mem_singleton.mp hg];exact xy
  ·exact J.xa g hg z hz
 ·rcases List.mem_cons.mp hz with rfl|hz
  ·exact sb.2 g hg
  ·exact J.xb g (by simp[hg]) z hz
 ·refine List.Perm.trans ?_ J.perm;have e:la++[x]++lb++y::ω=la++[x]++(lb++[y])++ω:=by simp
  rw[e]
theorem Mh.takeAs (C:Cm prog w A s k f N c):∀(n:Nat) (l:List Nat),l.length=n->∀{ω la:List Nat},Mh c α β (la++l) (lb++[y]) ω->(∀g∈l,c y g=true)->Mh c α β la (lb++[y]) (l++ω)
 | 0,l,hn,ω,la,J,_=>by
  obtain rfl:=List.eq_nil_of_length_eq_zero hn;simpa using J
 | n+1,l,hn,ω,la,J,h=>by
  rcases List.eq_nil_or_concat l with rfl|⟨l',x,rfl⟩
  ·simp at hn
  ·rw[List.concat_eq_append]at J h hn ⊢;rw[← List.append_assoc]at J;have:=Mh.takeAs C n l' (by simpa using hn) (J.takeA C (h x (by simp))) fun g hg=>h g (by simp[hg])
   simpa using this
theorem Mh.takeBs (C:Cm prog w A s k f N c):∀(n:Nat) (l:List Nat),l.length=n->∀{ω lb:List Nat},Mh c α β (la++[x]) (lb++l) ω->(∀g∈l,c g x=false)->Mh c α β (la++[x]) lb (l++ω)
 | 0,l,hn,ω,lb,J,_=>by
  obtain rfl:=List.eq_nil_of_length_eq_zero hn;simpa using J
 | n+1,l,hn,ω,lb,J,h=>by
  rcases List.eq_nil_or_concat l with rfl|⟨l',y,rfl⟩
  ·simp at hn
  ·rw[List.concat_eq_append]at J h hn ⊢;rw[← List.append_assoc]at J;have:=Mh.takeBs C n l' (by simpa using hn) (J.takeB C (h y (by simp))) fun g hg=>h g (by simp[hg])
   simpa using this
theorem Mh.doneA (J:Mh c α β la [] ω):Gd c α β (la++ω):=by
 refine⟨List.pairwise_append.mpr ⟨J.sa,J.so,J.xa⟩,?_⟩;have:=J.perm;rwa [List.append_nil]at this
theorem Mh.doneB (J:Mh c α β [] lb ω):Gd c α β (lb++ω):=⟨List.pairwise_append.mpr ⟨J.sb,J.so,J.xb⟩,by have:=J.perm;rwa [List.nil_append]at this⟩
theorem Mh.firstB (C:Cm prog w A s k f N c) (J:Mh c α β la [y] ω) (h:∀g∈la,c y g=true):Gd c α β ([y]++la++ω):=by
 have J':Mh c α β ([]++la) ([]++[y]) ω:=by simpa using J
 have:=(Mh.takeAs C la.length la rfl J' h).doneB;simpa using this
end
noncomputable def Hw (f:Nat->Keyed) (c:Nat->Nat->Bool) (α β:List Nat) (o:Array Keyed) (i j:Nat):Prop:=∃ω,o=ar f ω.reverse/\Mh c α β (α.take i) (β.take j) ω
section
variable {prog:Program} {w:World} {A:Around} {E:Value->Shared->Prop} {s:Shared} {k:SortKind} {f:Nat->Keyed} {N:Nat} {c:Nat->Nat->Bool} {α β:List Nat} {o:Array Keyed} {i j x y:Nat} {st:SortSt}
theorem ar_rev (l:List Nat):(ar f l).reverse=ar f l.reverse:=by simp[ar]
theorem ar_to (l:List Nat) (p:Nat):(ar f l).extract 0 p=ar f (l.take p):=by rw[ar_cut];simp
theorem takec {l:List Nat} {p g:Nat} (e:l[p]?=some g):l.take (p+1)=l.take p++[g]:=by rw[List.take_succ,e];rfl
theorem Hw.a (C:Cm prog w A s k f N c) (L:Hw f c α β o (i+1) (j+1)) (hx:α[i]?=some x) (hy:β[j]?=some y) (h:c y x=true):Hw f c α β (o.push (f x)) i (j+1):=by
 obtain⟨ω,rfl,J⟩:=L;refine⟨x::ω,by rw[ar_push,List.reverse_cons],?_⟩
 rw[takec hx]at J;rw[takec hy]at J ⊢;exact J.takeA C h
theorem Hw.b (C:Cm prog w A s k f N c) (L:Hw f c α β o (i+1) (j+1)) (hx:α[i]?=some x) (hy:β[j]?=some y) (h:c y x=false):Hw f c α β (o.push (f y)) (i+1) j:=by
 obtain⟨ω,rfl,J⟩:=L;refine⟨y::ω,by rw[ar_push,List.reverse_cons],?_⟩
 rw[takec hy]at J;rw[takec hx]at J ⊢;exact J.takeB C h
theorem take_cut {l:List Nat} {u i:Nat} (h:u<=i):l.take i=l.take u++(l.drop u).take (i-u):=by
 rw[List.take_drop,show u+(i - u)=i by omega]
 have:=List.take_append_drop u (l.take i);rw[List.take_take,Nat.min_eq_left h]at this;exact this.symm
theorem mem_cut {l:List Nat} {u n g:Nat} (h:g∈(l.drop u).take n):∃p,u<=p/\p<u+n/\l[p]?=some g:=by
 obtain⟨p,hp⟩:=List.mem_iff_getElem?.mp h;rw[List.getElem?_take]at hp;split at hp
 ·rw[List.getElem?_drop]at hp;exact⟨u+p,by omega,by omega,hp⟩
 ·cases hp
theorem Hw.as (C:Cm prog w A s k f N c) (L:Hw f c α β o i (j+1)) (hy:β[j]?=some y) {u:Nat} (hu:u<=i) (h:∀p g,u<=p->p<i->α[p]?=some g->c y g=true):Hw f c α β (o++((ar f α).extract u i).reverse) u (j+1):=by
 obtain⟨ω,rfl,J⟩:=L;refine⟨(α.drop u).take (i-u)++ω,by rw[ar_cut,ar_rev,ar_app,List.reverse_append],?_⟩
 rw[takec hy]at J ⊢;rw[take_cut hu]at J;exact Mh.takeAs C _ _ rfl J fun g hg=>by
  obtain⟨p,p1,p2,p3⟩:=mem_cut hg;exact h p g p1 (by omega) p3
theorem Hw.bs (C:Cm prog w A s k f N c) (L:Hw f c α β o (i+1) j) (hx:α[i]?=some x) {u:Nat} (hu:u<=j) (h:∀p g,u<=p->p<j->β[p]?=some g->c g x=false):Hw f c α β (o++((ar f β).extract u j).reverse) (i+1) u:=by
 obtain⟨ω,rfl,J⟩:=L;refine⟨(β.drop u).take (j-u)++ω,by rw[ar_cut,ar_rev,ar_app,List.reverse_append],?_⟩
 rw[takec hx]at J ⊢;rw[take_cut hu]at J;exact Mh.takeBs C _ _ rfl J fun g hg=>by
  obtain⟨p,p1,p2,p3⟩:=mem_cut hg;exact h p g p1 (by omega) p3
theorem Hw.dn (L:Hw f c α β o i j) (h:i=0∨j=0):Rt f c α β ((ar f α).extract 0 i++(ar f β).extract 0 j++o.reverse):=by
 obtain⟨ω,rfl,J⟩:=L;rw[ar_to,ar_to,ar_rev,List.reverse_reverse,ar_app,ar_app];refine⟨_,rfl,?_⟩;rcases h with rfl|rfl
 ·rw[List.take_zero]at J ⊢;rw[List.nil_append];exact J.doneB
 ·rw[List.take_zero]at J ⊢;rw[List.append_nil];exact J.doneA
theorem Hw.fb (C:Cm prog w A s k f N c) (T:Two c N α β) (L:Hw f c α β o i 1):Rt f c α β ((ar f β).extract 0 1++(ar f α).extract 0 i++o.reverse):=by
 have lb:0<β.length:=List.length_pos_iff.mpr T.nb;have la:0<α.length:=List.length_pos_iff.mpr T.na;obtain⟨y0,hy0⟩:∃y,β[0]?=some y:=⟨_,List.getElem?_eq_getElem lb⟩;obtain⟨x0,hx0⟩:∃x,α[0]?=some x:=⟨_,List.getElem?_eq_getElem la⟩;have hc:=T.first _ _ hx0 hy0
 obtain⟨ω,rfl,J⟩:=L;rw[ar_to,ar_to,ar_rev,List.reverse_reverse,ar_app,ar_app];refine⟨_,rfl,?_⟩;have e:β.take 1=[y0]:=by have:=takec hy0;simpa using this
 rw[e]at J ⊢;refine J.firstB C fun g hg=>?_;obtain⟨p,hp⟩:=List.mem_iff_getElem?.mp (List.mem_of_mem_take hg);by_cases h0:p=0
 ·subst h0;rw[hx0]at hp;cases hp;exact hc
 ·obtain⟨hp1,rfl⟩:=List.getElem?_eq_some_iff.mp hp;obtain⟨hx1,rfl⟩:=List.getElem?_eq_some_iff.mp hx0;have b:=C.le (List.pairwise_iff_getElem.mp T.sa 0 p hx1 hp1 (by omega))
  rcases C.neg y0 α[p] α[0] hc with q|q
  ·exact q
  ·rw[b]at q;cases q
end
end TS
namespace TS
open PySem PyProof.Rows
noncomputable def mhi:Array Keyed->Array Keyed->StateT SortSt Sem (Array Keyed):=sortPriv% PySem.Builtin.mergeHi
section
variable {prog:Program} {w:World} {A:Around} {E:Value->Shared->Prop} {s:Shared} {k:SortKind} {f:Nat->Keyed} {N:Nat} {c:Nat->Nat->Bool} {st:SortSt} {α β:List Nat}
theorem mhi_ok (C:Cm prog w A s k f N c) (hk:kindOf st=k) (T:Two c N α β) {Q:Array Keyed->SortSt->Prop} (q:∀o st',Sm st st'->Rt f c α β o->Q o st'):wpS (model prog w) A E s (mhi (ar f α) (ar f β)) Q st:=by
 have la:0<α.length:=List.length_pos_iff.mpr T.na;have lb:0<β.length:=List.length_pos_iff.mpr T.nb;obtain⟨n,hn⟩:∃n,α.length=n+1:=⟨α.length-1,by omega⟩
 obtain⟨b,hb⟩:∃b,β.length=b+1:=⟨β.length-1,by omega⟩
 obtain⟨xl,hxl⟩:∃x,α[n]?=some x:=⟨_,List.getElem?_eq_getElem (by omega)⟩
 obtain⟨yl,hyl⟩:∃y,β[b]?=some y:=⟨_,List.getElem?_eq_getElem (by omega)⟩
 have M0:Mh c α β α β []:=⟨List.Pairwise.nil,T.sa,T.sb,fun g hg h hh=>by simp at hh,fun g hg h hh=>by simp at hh,T.tag,by simp⟩
 have L0:Hw f c α β #[] (n+1) (b+1):=⟨[],by simp[ar],by rw[← hn,← hb,List.take_length,List.take_length];exact M0⟩
 have hcl:c yl xl=true:=T.last xl (by rw[hn];exact hxl) yl (List.mem_of_getElem? hyl)
 have L1:Hw f c α β #[f xl] n (b+1):=by have:=L0.a C hxl hyl hcl;simpa using this
 refine wpS_bind (wpS_lift (wpAny_rule ⟨rfl,?_⟩));rw[ar_size,ar_size,hn,hb];refine wpS_bind (el_ok (i:=n) hxl ?_);dsimp only[Nat.add_one_sub_one];by_cases h1:(n == 0)=true
 ·refine wpS_t h1 ?_;exact wpS_pure (q _ _ (Sm.refl _) (L1.dn (.inl (eq_of_beq h1))))
 ·refine wpS_f h1 ?_;have h1':n≠0:=fun e=>h1 (by rw[e];rfl)
  by_cases h2:(b+1 == 1)=true
  ·refine wpS_t h2 ?_;have e2:b+1=1:=eq_of_beq h2;rw[e2]at L1 ⊢;exact wpS_pure (q _ _ (Sm.refl _) (L1.fb C T))
  ·refine wpS_f h2 ?_;have h2':b+1≠1:=fun e=>h2 (by rw[e];rfl)
   refine wpS_bind (wpS_get ?_)
   refine wpS_bind (wpS_mono (wpS_forRange (I:=fun x r st'=>Sm st st'/\Ex4 (fun o i j m=>(none,i,j,o,m)) (fun o i j _=>Hw f c α β o i j/\0<i/\i<=α.length/\1<j/\j<=β.length/\x+i+j<α.length+β.length) r)
    (Q:=fun r st'=>Sm st st'/\Ex2 (fun o rest=>(some o,rest)) (fun o _=>Rt f c α β o) r) ?step ?fin ?init) ?post)
   case init=>exact⟨Sm.refl _,_,_,_,_,L1,by omega,by omega,by omega,by omega,by omega⟩
   case fin =>
    rintro r st' ⟨sm,o,i,j,m,L,b1,b2,b3,b4,b5⟩;omega
   case post =>
    rintro r st' ⟨sm,o,rest,R⟩;exact wpS_pure (q _ _ sm R)
   case step =>
    rintro x r st' p1 p2 ⟨sm,o,i,j,m,hI⟩;refine and6 hI fun L b1 b2 b3 b4 b5=>?_;dsimp (config:={ zeta:=false,zetaHave:=false }) only;have hk':kindOf st'=k:=sm.kind.trans hk
    refine wpS_bind (wpS_mono (wpS_forRange (I:=fun y r st2=>st2=st'/\Ex5 (fun o' i' j' a b=>(none,i',j',o',a,b)) (fun o' i' j' _ _=>Hw f c α β o' i' j'/\0<i'/\i'<=α.length/\1<j'/\j'<=β.length/\y+i'+j'=i+j) r)
     (Q:=fun r st2=>st2=st'/\(Ex2 (fun o' rest=>(some o',rest)) (fun o' _=>Rt f c α β o') r∨Ex5 (fun o' i' j' a b=>(none,i',j',o',a,b)) (fun o' i' j' _ _=>Hw f c α β o' i' j'/\0<i'/\i'<=α.length/\1<j'/\j'<=β.length/\i'+j'<i+j) r)) ?step1 ?fin1 ?init1) ?post1)
    case init1=>exact⟨rfl,_,_,_,_,_,L,b1,b2,b3,b4,by omega⟩
    case fin1 =>
     rintro r st2 ⟨rfl,o',i',j',a,b,L',c1,c2,c3,c4,c5⟩;omega
    case step1 =>
     rintro y r st2 q1 q2 ⟨rfl,o',i',j',a,b,hI⟩;refine and6 hI fun L' c1 c2 c3 c4 c5=>?_;dsimp (config:={ zeta:=false,zetaHave:=false }) only;obtain⟨i1,hi1⟩:∃n,n=i'-1:=⟨_,rfl⟩;obtain⟨j1,hj1⟩:∃n,n=j'-1:=⟨_,rfl⟩;rw[← hi1,← hj1];obtain rfl:i'=i1+1:=by omega
     obtain rfl:j'=j1+1:=by omega
     obtain⟨xv,hx⟩:∃x,α[i1]?=some x:=⟨_,List.getElem?_eq_getElem (by omega)⟩
     obtain⟨yv,hy⟩:∃y,β[j1]?=some y:=⟨_,List.getElem?_eq_getElem (by omega)⟩
     refine wpS_bind (el_ok hy (wpS_bind (el_ok hx (wpS_bind (lt_ok C hk' (T.bb _ (List.mem_of_getElem? hy)) (T.ba _ (List.mem_of_getElem? hx)) ?_)))));cases hc:c yv xv with
     | true =>
      have L2:=L'.a C hx hy hc;dsimp (config:={ zeta:=false,zetaHave:=false }) only;refine wpS_t rfl ?_;refine wpS_bind (el_ok hx ?_);by_cases e1:(i1 == 0)=true
      ·refine wpS_t e1 ?_;exact wpS_pure ⟨rfl,.inl ⟨_,_,L2.dn (.inl (eq_of_beq e1))⟩⟩
      ·refine wpS_f e1 ?_;have e1':i1≠0:=fun z=>e1 (by rw[z];exact beq_self_eq_true _)
       split
       ·exact wpS_pure ⟨rfl,.inr ⟨_,_,_,_,_,L2,by omega,by omega,by omega,by omega,by omega⟩⟩
       ·exact wpS_pure ⟨rfl,_,_,_,_,_,L2,by omega,by omega,by omega,by omega,by omega⟩
     | false =>
      have L2:=L'.b C hx hy hc;dsimp (config:={ zeta:=false,zetaHave:=false }) only;refine wpS_f Bool.noConfusion ?_;refine wpS_bind (el_ok hy ?_);by_cases e1:(j1 == 1)=true
      ·refine wpS_t e1 ?_;have e2:j1=1:=eq_of_beq e1;subst e2;exact wpS_pure ⟨rfl,.inl ⟨_,_,L2.fb C T⟩⟩
      ·refine wpS_f e1 ?_;have e1':j1≠1:=fun z=>e1 (by rw[z];exact beq_self_eq_true _)
       split
       ·exact wpS_pure ⟨rfl,.inr ⟨_,_,_,_,_,L2,by omega,by omega,by omega,by omega,by omega⟩⟩
       ·exact wpS_pure ⟨rfl,_,_,_,_,_,L2,by omega,by omega,by omega,by omega,by omega⟩
    case post1 =>
     rintro r st2 ⟨rfl,⟨o',rest,R⟩|⟨o',i',j',a,b,hI⟩⟩
     ·exact wpS_pure ⟨sm,o',_,R⟩
     refine and6 hI fun L' c1 c2 c3 c4 c5=>?_;dsimp (config:={ zeta:=false,zetaHave:=false }) only;refine wpS_bind (wpS_lift (wpAny_rule ⟨rfl,?_⟩))
     refine wpS_bind (wpS_mono (wpS_forRange (I:=fun y r st3=>Sm st st3/\Ex6 (fun o2 i2 j2 m2 a2 b2=>(none,i2,j2,o2,m2,a2,b2)) (fun o2 i2 j2 _ _ _=>Hw f c α β o2 i2 j2/\0<i2/\i2<=α.length/\1<j2/\j2<=β.length/\i2+j2+y<=i'+j') r)
      (Q:=fun r st3=>Sm st st3/\(Ex2 (fun o2 rest=>(some o2,rest)) (fun o2 _=>Rt f c α β o2) r∨Ex6 (fun o2 i2 j2 m2 a2 b2=>(none,i2,j2,o2,m2,a2,b2)) (fun o2 i2 j2 _ _ _=>Hw f c α β o2 i2 j2/\0<i2/\i2<=α.length/\1<j2/\j2<=β.length/\i2+j2<=i'+j') r)) ?step2 ?fin2 ?init2) ?post2)
     case init2=>exact⟨sm,_,_,_,_,_,_,L',c1,c2,c3,c4,Nat.le_refl _⟩
     case fin2 =>
      rintro r st3 ⟨sm3,o2,i2,j2,m2,a2,b2,L2,d1,d2,d3,d4,d5⟩;omega
     case post2 =>
      rintro r st3 ⟨sm3,⟨o2,rest,R⟩|⟨o2,i2,j2,m2,a2,b2,hI⟩⟩
      ·exact wpS_pure ⟨sm3,o2,_,R⟩
      refine and6 hI fun L2 d1 d2 d3 d4 d5=>?_;dsimp only;refine wpS_bind (sg_ok fun st4 sm4'=>?_);exact wpS_pure ⟨sm3.trans sm4',_,_,_,_,L2,d1,d2,d3,d4,by omega⟩
     case step2 =>
      rintro y r st3 q1 q2 ⟨sm3,o2,i2,j2,m2,a2,b2,hI⟩;refine and6 hI fun L2 d1 d2 d3 d4 d5=>?_;dsimp only;obtain⟨j3,hj3⟩:∃n,n=j2-1:=⟨_,rfl⟩;rw[← hj3];obtain rfl:j2=j3+1:=by omega
      obtain⟨yv,hy⟩:∃y,β[j3]?=some y:=⟨_,List.getElem?_eq_getElem (by omega)⟩
      have hyN:=T.bb _ (List.mem_of_getElem? hy);generalize m2-1=m1;revert m1;apply wpS_all_jp;intro m3;refine wpS_bind (sg_ok fun st4 sm4'=>?_);have sm4:Sm st st4:=sm3.trans sm4';have hk4:kindOf st4=k:=sm4.kind.trans hk;refine wpS_bind (el_ok hy ?_);refine wpS_bind (glo_ok C hk4 T.sa T.ba hyN (left:=false) (base:=0) (n:=i2) (hint:=i2-1) (by omega) (by omega) fun u hu tr fs=>?_)
      have fs':∀p g,u<=p->p<i2->α[p]?=some g->c yv g=true:=fun p g z1 z2 z3=>by simpa[bb]using fs p g (by omega) (by omega) z3
      have L3:=L2.as C hy hu fs';dsimp only;obtain⟨k1,hk1⟩:∃k1,k1=i2-u:=⟨_,rfl⟩;rw[← hk1];apply wpS_cut (o:=o2) (i:=i2) (I:=fun o i=>Hw f c α β o i (j3+1)/\i=u/\0<i)
      case g=>exact fun hu0=>⟨L2,by omega,d1⟩
      case h =>
       intro _ key;by_cases e1:(u == 0)=true
       ·refine wpS_t e1 ?_;exact wpS_pure ⟨sm4,.inl ⟨_,_,L3.dn (.inl (eq_of_beq e1))⟩⟩
       refine wpS_f e1 ?_;rw[beq_iff_eq]at e1;exact key (o2++((ar f α).extract u i2).reverse) u ⟨L3,rfl,Nat.pos_of_ne_zero e1⟩
      rintro o i ⟨L3,hi,hl⟩;obtain⟨i3,hi3⟩:∃n,n=i-1:=⟨_,rfl⟩;rw[← hi3];obtain rfl:i=i3+1:=by omega
      obtain⟨xv,hx⟩:∃x,α[i3]?=some x:=⟨_,List.getElem?_eq_getElem (by omega)⟩
      have hxN:=T.ba _ (List.mem_of_getElem? hx);have hca:c yv xv=false:=by simpa[bb]using tr i3 xv (by omega) (by omega) hx
      have L4:=L3.b C hx hy hca;refine wpS_bind (el_ok hy ?_);generalize o.push (f yv)=o4 at L4 ⊢;by_cases e3:(j3 == 1)=true
      ·refine wpS_t e3 ?_;have e3':j3=1:=eq_of_beq e3;subst e3';exact wpS_pure ⟨sm4,.inl ⟨_,_,L4.fb C T⟩⟩
      refine wpS_f e3 ?_;rw[beq_iff_eq]at e3;refine wpS_bind (el_ok hx ?_);refine wpS_bind (glo_ok C hk4 T.sb T.bb hxN (left:=true) (base:=0) (n:=j3) (hint:=j3-1) (by omega) (by omega) fun v hv tr2 fs2=>?_)
      have fs2':∀p g,v<=p->p<j3->β[p]?=some g->c g xv=false:=fun p g z1 z2 z3=>by simpa[bb]using fs2 p g (by omega) (by omega) z3
      have L5:=L4.bs C hx hv fs2';dsimp only;obtain⟨k2,hk2⟩:∃k2,k2=j3-v:=⟨_,rfl⟩;rw[← hk2];apply wpS_cut (o:=o4) (i:=j3) (I:=fun o j=>Hw f c α β o (i3+1) j/\j=v/\1<j)
      case g=>exact fun hv0=>⟨L4,by omega,by omega⟩
      case h =>
       intro _ key;by_cases e4:(v == 1)=true
       ·refine wpS_t e4 ?_;have e4':v=1:=eq_of_beq e4;subst e4';exact wpS_pure ⟨sm4,.inl ⟨_,_,L5.fb C T⟩⟩
       refine wpS_f e4 ?_;by_cases e7:(v == 0)=true
       ·refine wpS_t e7 ?_;exact wpS_pure ⟨sm4,.inl ⟨_,_,L5.dn (.inr (eq_of_beq e7))⟩⟩
       refine wpS_f e7 ?_;rw[beq_iff_eq]at e4 e7;exact key (o4++((ar f β).extract v j3).reverse) v ⟨L5,rfl,by omega⟩
      rintro o5 j5' ⟨L5,hj5,hl5⟩;obtain⟨j5,rfl⟩:∃n,j5'=n+1:=⟨j5'-1,by omega⟩
      obtain⟨y2,hy2⟩:∃y,β[j5]?=some y:=⟨_,List.getElem?_eq_getElem (by omega)⟩
      have hcb:c y2 xv=true:=by simpa[bb]using tr2 j5 y2 (by omega) (by omega) hy2
      have L6:=L5.a C hx hy2 hcb;refine wpS_bind (el_ok hx ?_);by_cases e5:(i3 == 0)=true
      ·refine wpS_t e5 ?_;exact wpS_pure ⟨sm4,.inl ⟨_,_,L6.dn (.inl (eq_of_beq e5))⟩⟩
      refine wpS_f e5 ?_;rw[beq_iff_eq]at e5;have w1:0<i3:=Nat.pos_of_ne_zero e5;split
      ·exact wpS_pure ⟨sm4,.inr ⟨_,_,_,_,_,_,L6,w1,by omega,hl5,by omega,by omega⟩⟩
      ·exact wpS_pure ⟨sm4,_,_,_,_,_,_,L6,w1,by omega,hl5,by omega,by omega⟩
end
end TS
namespace TS
open PySem PyProof.Rows
theorem fold_set {α:Type} (sa:Nat):∀(ms:List α) (j:Nat) (x:Array α),sa+j+ms.length<=x.size ->
  ((ms.zipIdx j).foldl (fun a (p:α×Nat)=>a.setIfInBounds (sa+p.2) p.1) x).toList=x.toList.take (sa+j)++ms++x.toList.drop (sa+j+ms.length)
 | [],j,x,_=>by simp
 | m::ms,j,x,h=>by
  rw[List.length_cons]at h;rw[List.zipIdx_cons,List.foldl_cons,fold_set sa ms (j+1) _ (by rw[Array.size_setIfInBounds];omega)]
  have hl:sa+j<x.toList.length:=by rw[Array.length_toList];omega
  have e:(x.setIfInBounds (sa+j) m).toList=x.toList.set (sa+j) m:=by simp
  have e1:(x.toList.set (sa+j) m).take (sa+(j+1))=x.toList.take (sa+j)++[m]:=by
   rw[show sa+(j+1)=sa+j+1 by omega,List.take_succ,List.take_set_of_le (Nat.le_refl _),List.getElem?_set_self hl];rfl
  have e2:(x.toList.set (sa+j) m).drop (sa+(j+1)+ms.length)=x.toList.drop (sa+j+(ms.length+1)):=by
   rw[List.drop_set_of_lt (by omega),show sa+(j+1)+ms.length=sa+j+(ms.length+1) by omega]
  rw[e,e1,e2,List.length_cons];simp
noncomputable def pc (γ:Array Nat) (lo n:Nat):List Nat:=(γ.toList.drop lo).take n
section
variable {prog:Program} {w:World} {A:Around} {E:Value->Shared->Prop} {s:Shared} {k:SortKind} {f:Nat->Keyed} {N:Nat} {c:Nat->Nat->Bool} {st:SortSt} {γ:Array Nat}
theorem pc_len {lo n:Nat} (h:lo+n<=γ.size):(pc γ lo n).length=n:=by
 unfold pc;rw[List.length_take,List.length_drop,Array.length_toList];omega
theorem pc_at {lo n i:Nat} (h:i<n):(pc γ lo n)[i]?=γ[lo+i]?:=by
 unfold pc;rw[List.getElem?_take,if_pos h,List.getElem?_drop];simp
theorem pc_split (lo:Nat) (n m:Nat):pc γ lo (n+m)=pc γ lo n++pc γ (lo+n) m:=by
 unfold pc;rw[List.take_add,List.drop_drop]
theorem pc_sg {lo n:Nat} (sg:Sg c γ lo (lo+n)):(pc γ lo n).Pairwise (Bf c):=by
 rw[List.pairwise_iff_getElem];intro i j hi hj hij;have li:i<n:=by have:=List.length_take_le n (γ.toList.drop lo);unfold pc at hi;omega
 have lj:j<n:=by have:=List.length_take_le n (γ.toList.drop lo);unfold pc at hj;omega
 exact sg (lo+i) (lo+j) _ _ (by omega) (by omega) (by omega) (by rw[← pc_at li];exact List.getElem?_eq_getElem hi) (by rw[← pc_at lj];exact List.getElem?_eq_getElem hj)
theorem pc_mem {lo n g:Nat} (h:g∈pc γ lo n):∃i,lo<=i/\i<lo+n/\γ[i]?=some g:=by
 obtain⟨p,h1,h2,h3⟩:=mem_cut h;exact⟨p,h1,h2,by simpa using h3⟩
theorem pc_ar (lo n:Nat):(γ.map f).extract lo (lo+n)=ar f (pc γ lo n):=by
 have e:γ.map f=ar f γ.toList:=by simp[ar]
 rw[e,ar_cut,show lo+n - lo=n by omega];rfl
theorem mo_sg (C:Cm prog w A s k f N c) {lo n:Nat} (sg:Sg c γ lo (lo+n)) (left:Bool) (t:Nat):Mo c left t lo n γ:=by
 intro i j g h p1 p2 p3 e1 e2 z;have b:=C.le (sg i j g h p1 p2 p3 e1 e2);cases left with
 | false =>
  simp only[bb,Bool.false_eq_true,if_false,Bool.not_eq_true']at z ⊢;cases z2:c t g with
  | false=>rfl
  | true =>
   rcases C.neg t h g z2 with q|q
   ·rw[z]at q;cases q
   ·rw[b]at q;cases q
 | true =>
  simp only[bb,if_true]at z ⊢;rcases C.neg h g t z with q|q
  ·rw[b]at q;cases q
  ·exact q
theorem whole {lo n:Nat} (h:lo+n<=γ.size):γ.toList=γ.toList.take lo++pc γ lo n++γ.toList.drop (lo+n):=by
 unfold pc;rw[← List.drop_drop,List.append_assoc,List.take_append_drop,List.take_append_drop]
theorem new_piece {lo n:Nat} (h:lo+n<=γ.size) {X:List Nat} (p:X.Perm (pc γ lo n)) {γ':Array Nat} (e:γ'.toList=γ.toList.take lo++X++γ.toList.drop (lo+n)) :
  γ'.Perm γ/\Out γ γ' lo (lo+n)/\(∀i,i<n->γ'[lo+i]?=X[i]?):=by
 have hX:X.length=n:=by rw[p.length_eq,pc_len h]
 have hlo:(γ.toList.take lo).length=lo:=by rw[List.length_take,Array.length_toList];omega
 have hg:∀i:Nat,γ'[i]?=γ'.toList[i]?:=fun i=>Array.getElem?_toList.symm;have hg2:∀i:Nat,γ[i]?=γ.toList[i]?:=fun i=>Array.getElem?_toList.symm;refine⟨?_,fun i hi=>?_,fun i hi=>?_⟩
 ·rw[Array.perm_iff_toList_perm,e]
  conv=>rhs;rw[whole h]
  exact(p.append_left _).append_right _
 ·rw[hg,hg2,e];rcases hi with hi|hi
  ·rw[List.append_assoc,List.getElem?_append_left (by omega),List.getElem?_take,if_pos hi]
  ·rw[List.getElem?_append_right (by rw[List.length_append];omega),List.length_append,hlo,hX,List.getElem?_drop]
   congr 1;omega
 ·rw[hg,e,List.append_assoc,List.getElem?_append_right (by omega),hlo,List.getElem?_append_left (by omega)]
  congr 1;omega
theorem sg_new {lo n:Nat} {X:List Nat} {γ':Array Nat} (hX:X.length=n) (at':∀i,i<n->γ'[lo+i]?=X[i]?) (pw:X.Pairwise (Bf c)):Sg c γ' lo (lo+n):=by
 intro i j g h p1 p2 p3 e1 e2;have e1':X[i - lo]?=some g:=by rw[← at' (i - lo) (by omega),show lo+(i - lo)=i by omega];exact e1
 have e2':X[j - lo]?=some h:=by rw[← at' (j - lo) (by omega),show lo+(j - lo)=j by omega];exact e2
 obtain⟨hi,rfl⟩:=List.getElem?_eq_some_iff.mp e1';obtain⟨hj,rfl⟩:=List.getElem?_eq_some_iff.mp e2';exact List.pairwise_iff_getElem.mp pw _ _ hi hj (by omega)
theorem ow_new {lo n:Nat} {X:List Nat} {γ':Array Nat} (at':∀i,i<n->γ'[lo+i]?=X[i]?) (ow:∀g∈X,lo<=g/\g<lo+n):Ow γ' lo (lo+n):=by
 intro i g p1 p2 e;refine ow g (List.mem_of_getElem? (i:=i-lo) ?_);rw[← at' (i - lo) (by omega),show lo+(i - lo)=i by omega];exact e
end
end TS
namespace TS
open PySem PyProof.Rows
noncomputable def mat:Nat->StateT SortSt Sem Bool:=sortPriv% PySem.Builtin.mergeAt
section
variable {prog:Program} {w:World} {A:Around} {E:Value->Shared->Prop} {s:Shared} {k:SortKind} {f:Nat->Keyed} {N:Nat} {c:Nat->Nat->Bool} {st:SortSt} {γ:Array Nat}
theorem wps_set {σ:Type} {st' st0:σ} {Q:PUnit->σ->Prop} (h:Q ⟨⟩ st'):wpS (model prog w) A E s (set st':StateT σ Sem PUnit) Q st0:=by
 unfold wpS;rw[StateT.run_set];exact wpAny_pure ⟨rfl,h⟩
theorem el2_ok {i g:Nat} (e:γ[i]?=some g) {Q:Keyed->SortSt->Prop} (q:Q (f g) st):wpS (model prog w) A E s (elem' (γ.map f) i) Q st:=by
 rw[elem'_eq,Array.getElem?_map,e];exact wpS_pure q
theorem gl2_ok (C:Cm prog w A s k f N c) (hk:kindOf st=k) {left:Bool} {t base n hint:Nat} (ht:t<N) (hb:∀(i g:Nat),γ[i]?=some g->g<N) (hs:base+n<=γ.size) (hh:hint<n) (sg:Sg c γ base (base+n))
  {Q:Option Nat->SortSt->Prop} (q:∀m,m<=n->Tr c left t base γ m->Fs c left t base n γ m->Q (some m) st) :
  wpS (model prog w) A E s ((sortPriv% PySem.Builtin.gallop) left (f t) (γ.map f) base n hint) Q st:=gal_ok C hk ht hb hs hh (mo_sg C sg left t) q
structure Mtd (k:SortKind) (f:Nat->Keyed) (N:Nat) (c:Nat->Nat->Bool) (γ:Array Nat) (lo n:Nat) (st':SortSt) (γ':Array Nat):Prop where
 rp:Rp k f N st' γ'
 sg:Sg c γ' lo (lo+n)
 ow:Ow γ' lo (lo+n)
 out:Out γ γ' lo (lo+n)
theorem mat_ok (C:Cm prog w A s k f N c) (R:Rp k f N st γ) {i sa na p1 nb p2:Nat} (e1:(pendingOf st)[i]?=some (sa,na,p1)) (e2:(pendingOf st)[i+1]?=some (sa+na,nb,p2)) (ha:1<=na) (hb:1<=nb) (hN:sa+na+nb<=N)
  (ga:Sg c γ sa (sa+na)) (oa:Ow γ sa (sa+na)) (gb:Sg c γ (sa+na) (sa+na+nb)) (ob:Ow γ (sa+na) (sa+na+nb))
  {Q:Bool->SortSt->Prop} (q:∀st' γ',Mtd k f N c γ sa (na+nb) st' γ'->pendingOf st'=((pendingOf st).setIfInBounds i (sa,na+nb,p1)).eraseIdxIfInBounds (i+1)->Q true st') :
  wpS (model prog w) A E s (mat i) Q st:=by
 have hsz:=R.size;have bnd:∀(i g:Nat),γ[i]?=some g->g<N:=fun i g e=>R.bnd e;obtain⟨t,ht⟩:=get_of (γ:=γ) (i:=sa+na) (by omega)
 obtain⟨x,hx⟩:=get_of (γ:=γ) (i:=sa+na-1) (by omega)
 have tN:=bnd _ _ ht;have xN:=bnd _ _ hx;have tagab:∀i j g h,sa<=i->i<sa+na->sa+na<=j->j<sa+na+nb->γ[i]?=some g->γ[j]?=some h->g<h:=fun i j g h a1 a2 a3 a4 z1 z2=>by
  have:=oa i g a1 a2 z1;have:=ob j h a3 a4 z2;omega
 have tb:∀j h,sa+na<=j->j<sa+na+nb->γ[j]?=some h->c h t=false:=fun j h a3 a4 z=>by
  by_cases hj:j=sa+na
  ·subst hj;rw[ht]at z;cases z;exact C.irr _
  ·exact C.le (gb (sa+na) j t h (Nat.le_refl _) (by omega) a4 ht z)
 have ax:∀i g,sa<=i->i<sa+na->γ[i]?=some g->c x g=false:=fun i g a1 a2 z=>by
  by_cases hi:i=sa+na-1
  ·subst hi;rw[hx]at z;cases z;exact C.irr _
  ·exact C.le (ga i (sa+na-1) g x a1 (by omega) (by omega) z hx)
 have idle:(∀i j g h,sa<=i->i<sa+na->sa+na<=j->j<sa+na+nb->γ[i]?=some g->γ[j]?=some h->c h g=false)->∀st1,arrOf st1=arrOf st->kindOf st1=kindOf st->failedOf st1=failedOf st->Mtd k f N c γ sa (na+nb) st1 γ:=fun hc st1 a1 k1 f1=>by
  refine⟨⟨a1.trans R.arr,k1.trans R.kind,f1.trans R.fine,R.perm⟩,fun i j g h z1 z2 z3 z4 z5=>?_,fun i g z1 z2 z3=>?_,Out.refl _ _ _⟩
  ·by_cases hi:i<sa+na
   ·by_cases hj:j<sa+na
    ·exact ga i j g h z1 z2 hj z4 z5
    ·exact .inr ⟨hc i j g h z1 hi (by omega) (by omega) z4 z5,tagab i j g h z1 hi (by omega) (by omega) z4 z5⟩
   ·exact gb i j g h (by omega) z2 (by omega) z4 z5
  ·by_cases hi:i<sa+na
   ·have:=oa i g z1 hi z3;omega
   ·have:=ob i g (by omega) (by omega) z3;omega
 have ra:(sortPriv% PySem.Builtin.SortState.a) st=γ.map f:=R.arr;refine wpS_bind (wpS_get ?_);dsimp only;rw[e1,e2];dsimp only;refine wpS_bind (wpS_mono (Q:=fun _ st1=>arrOf st1=arrOf st/\kindOf st1=kindOf st/\failedOf st1=failedOf st/\pendingOf st1=((pendingOf st).setIfInBounds i (sa,na+nb,p1)).eraseIdxIfInBounds (i+1)) (wps_set ⟨rfl,rfl,rfl,rfl⟩) ?_);rintro _ st1 ⟨a1,k1,f1,pd1⟩;have hk1:kindOf st1=k:=k1.trans R.kind;rw[ra];refine wpS_bind (el2_ok ht ?_);refine wpS_bind (gl2_ok C hk1 tN bnd (left:=false) (base:=sa) (n:=na) (hint:=0) (by omega) (by omega) ga fun u hu tr fs=>?_)
 dsimp only;have tr':∀i g,sa<=i->i<sa+u->γ[i]?=some g->c t g=false:=fun i g z1 z2 z3=>by simpa[bb]using tr i g z1 z2 z3
 have fs':∀i g,sa+u<=i->i<sa+na->γ[i]?=some g->c t g=true:=fun i g z1 z2 z3=>by simpa[bb]using fs i g z1 z2 z3
 by_cases e3:(na-u == 0)=true
 ·refine wpS_t e3 ?_;have e3':na-u=0:=eq_of_beq e3;refine wpS_pure (q st1 γ (idle (fun i j g h z1 z2 z3 z4 z5 z6=>?_) st1 a1 k1 f1) pd1);exact C.letr (tr' i g z1 (by omega) z5) (tb j h z3 z4 z6)
 refine wpS_f e3 ?_;have e3':na-u≠0:=fun z=>e3 (by rw[z];rfl)
 rw[show sa+u+(na - u) - 1=sa+na - 1 by omega]
 refine wpS_bind (el2_ok hx ?_);refine wpS_bind (gl2_ok C hk1 xN bnd (left:=true) (base:=sa+na) (n:=nb) (hint:=nb-1) (by omega) (by omega) gb fun v hv tr2 fs2=>?_)
 dsimp only;have tr2':∀i g,sa+na<=i->i<sa+na+v->γ[i]?=some g->c g x=true:=fun i g z1 z2 z3=>by simpa[bb]using tr2 i g z1 z2 z3
 have fs2':∀i g,sa+na+v<=i->i<sa+na+nb->γ[i]?=some g->c g x=false:=fun i g z1 z2 z3=>by simpa[bb]using fs2 i g z1 z2 z3
 by_cases e4:(v == 0)=true
 ·refine wpS_t e4 ?_;have e4':v=0:=eq_of_beq e4;refine wpS_pure (q st1 γ (idle (fun i j g h z1 z2 z3 z4 z5 z6=>?_) st1 a1 k1 f1) pd1);exact C.letr (ax i g z1 z2 z5) (fs2' j h (by omega) z4 z6)
 refine wpS_f e4 ?_;have e4':v≠0:=fun z=>e4 (by rw[z];rfl)
 have ex:(γ.map f).extract (sa+u) (sa+na)=ar f (pc γ (sa+u) (na-u)):=by
  have:=pc_ar (γ:=γ) (f:=f) (sa+u) (na-u);rwa [show sa+u+(na-u)=sa+na by omega]at this
 have ey:(γ.map f).extract (sa+na) (sa+na+v)=ar f (pc γ (sa+na) v):=pc_ar _ _;rw[ex,ey];have T:Two c N (pc γ (sa+u) (na-u)) (pc γ (sa+na) v):=by
  refine⟨pc_sg fun i j g h z1 z2 z3=>ga i j g h (by omega) z2 (by omega),pc_sg fun i j g h z1 z2 z3=>gb i j g h z1 z2 (by omega),fun g hg h hh=>?_,fun g hg=>?_,fun g hg=>?_,fun z=>?_,fun z=>?_,fun x' y' z1 z2=>?_,fun x' z1 g hg=>?_⟩
  ·obtain⟨i,y1,y2,y3⟩:=pc_mem hg;obtain⟨j,y4,y5,y6⟩:=pc_mem hh;exact tagab i j g h (by omega) (by omega) y4 (by omega) y3 y6
  ·obtain⟨i,y1,y2,y3⟩:=pc_mem hg;exact bnd i g y3
  ·obtain⟨i,y1,y2,y3⟩:=pc_mem hg;exact bnd i g y3
  ·have:=pc_len (γ:=γ) (lo:=sa+u) (n:=na-u) (by omega)
   rw[z]at this;simp at this;omega
  ·have:=pc_len (γ:=γ) (lo:=sa+na) (n:=v) (by omega)
   rw[z]at this;simp at this;omega
  ·rw[pc_at (by omega)]at z1 z2
   rw[Nat.add_zero]at z1 z2;rw[ht]at z2;cases z2;exact fs' (sa+u) x' (Nat.le_refl _) (by omega) z1
  ·rw[pc_len (by omega),pc_at (by omega),show sa+u+(na - u - 1)=sa+na - 1 by omega,hx]at z1
   cases z1;obtain⟨i,y1,y2,y3⟩:=pc_mem hg;exact tr2' i g y1 y2 y3
 have fin:∀(o:Array Keyed) (st2:SortSt),Sm st1 st2->Rt f c (pc γ (sa+u) (na-u)) (pc γ (sa+na) v) o->∀st3:SortSt,arrOf st3=o.toList.zipIdx.foldl (fun a (p:Keyed×Nat)=>a.setIfInBounds (sa+u+p.2) p.1) (arrOf st2)->kindOf st3=kindOf st2->pendingOf st3=pendingOf st2->failedOf st3=failedOf st2 ->
   ∃γ',Mtd k f N c γ sa (na+nb) st3 γ':=fun o st2 sm2 rt st3 a3 k3 _ f3=>by
  obtain⟨l,rfl,gd⟩:=rt;have hl:l.length=na-u+v:=by rw[gd.2.length_eq,List.length_append,pc_len (by omega),pc_len (by omega)]
  have sp:pc γ sa (na+nb)=pc γ sa u++(pc γ (sa+u) (na-u)++pc γ (sa+na) v)++pc γ (sa+na+v) (nb-v):=by
   have h1:na+nb=u+((na-u)+(v+(nb-v))):=by omega
   rw[h1,pc_split,pc_split (sa+u),pc_split (sa+u+(na - u)),show sa+u+(na - u)=sa+na by omega]
   simp
  have pX:(pc γ sa u++l++pc γ (sa+na+v) (nb-v)).Perm (pc γ sa (na+nb)):=by
   rw[sp];exact(gd.2.append_left _).append_right _
  have hX:(pc γ sa u++l++pc γ (sa+na+v) (nb-v)).length=na+nb:=by rw[pX.length_eq,pc_len (by omega)]
  let γ':Array Nat:=(γ.toList.take sa++(pc γ sa u++l++pc γ (sa+na+v) (nb-v))++γ.toList.drop (sa+(na+nb))).toArray
  have eγ:γ'.toList=γ.toList.take sa++(pc γ sa u++l++pc γ (sa+na+v) (nb-v))++γ.toList.drop (sa+(na+nb)):=rfl;obtain⟨n1,n2,n3⟩:=new_piece (γ:=γ) (lo:=sa) (n:=na+nb) (by omega) pX eγ
  have pw:(pc γ sa u++l++pc γ (sa+na+v) (nb-v)).Pairwise (Bf c):=by
   have inl:∀h∈l,(∃i,sa+u<=i/\i<sa+na/\γ[i]?=some h)∨∃j,sa+na<=j/\j<sa+na+v/\γ[j]?=some h:=fun h hh=>by
    rcases List.mem_append.mp (gd.2.mem_iff.mp hh) with hh|hh
    ·obtain⟨i,y1,y2,y3⟩:=pc_mem hh;exact .inl ⟨i,y1,by omega,y3⟩
    ·obtain⟨i,y1,y2,y3⟩:=pc_mem hh;exact .inr ⟨i,y1,y2,y3⟩
   rw[List.pairwise_append,List.pairwise_append];refine⟨⟨pc_sg fun i j g h z1 z2 z3=>ga i j g h z1 z2 (by omega),gd.1,fun g hg h hh=>?_⟩,pc_sg fun i j g h z1 z2 z3=>gb i j g h (by omega) z2 (by omega),fun g hg h hh=>?_⟩
   ·obtain⟨i,y1,y2,y3⟩:=pc_mem hg;rcases inl h hh with⟨j,y4,y5,y6⟩|⟨j,y4,y5,y6⟩
    ·exact ga i j g h y1 (by omega) y5 y3 y6
    ·exact .inr ⟨C.letr (tr' i g y1 y2 y3) (tb j h y4 (by omega) y6),tagab i j g h y1 (by omega) y4 (by omega) y3 y6⟩
   ·obtain⟨j,y4,y5,y6⟩:=pc_mem hh;rcases List.mem_append.mp hg with hg|hg
    ·obtain⟨i,y1,y2,y3⟩:=pc_mem hg;exact .inr ⟨C.letr (ax i g y1 (by omega) y3) (fs2' j h y4 (by omega) y6),tagab i j g h y1 (by omega) (by omega) (by omega) y3 y6⟩
    ·rcases inl g hg with⟨i,y1,y2,y3⟩|⟨i,y1,y2,y3⟩
     ·exact .inr ⟨C.letr (ax i g (by omega) y2 y3) (fs2' j h y4 (by omega) y6),tagab i j g h (by omega) y2 (by omega) (by omega) y3 y6⟩
     ·exact gb i j g h y1 (by omega) (by omega) y3 y6
  refine⟨γ',⟨?_,(k3.trans sm2.kind).trans hk1,(f3.trans sm2.fine).trans (f1.trans R.fine),n1.trans R.perm⟩,sg_new hX n3 pw,ow_new n3 fun g hg=>?_,n2⟩
  ·have ar1:arrOf st2=γ.map f:=(sm2.arr.trans a1).trans R.arr;rw[a3,ar1];apply Array.toList_inj.mp;have:=fold_set (sa+u) (ar f l).toList 0 (γ.map f) (by rw[Array.size_map,hsz];simp[ar,hl];omega)
   rw[Nat.add_zero]at this;rw[this];have el:(ar f l).toList=l.map f:=by simp[ar]
   rw[el,List.length_map,hl,Array.toList_map,Array.toList_map,eγ];rw[← List.map_take,← List.map_drop,← List.map_append,← List.map_append];congr 1;have t1:γ.toList.take (sa+u)=γ.toList.take sa++pc γ sa u:=by
    unfold pc;rw[List.take_add]
   have t2:γ.toList.drop (sa+u+(na-u+v))=pc γ (sa+na+v) (nb-v)++γ.toList.drop (sa+(na+nb)):=by
    unfold pc;have h:=List.take_append_drop (nb-v) (γ.toList.drop (sa+na+v));rw[List.drop_drop,show sa+na+v+(nb - v)=sa+(na+nb) by omega]at h
    rw[show sa+u+(na - u+v)=sa+na+v by omega,h]
   rw[t1,t2];simp
  ·have hg':=pX.mem_iff.mp hg;obtain⟨i,y1,y2,y3⟩:=pc_mem hg';by_cases hi:i<sa+na
   ·have:=oa i g y1 hi y3;omega
   ·have:=ob i g (by omega) (by omega) y3;omega
 by_cases e5:na-u<=v
 ·refine wpS_t e5 ?_;refine wpS_bind (mlo_ok C hk1 T fun o st2 sm2 rt=>?_);refine wpS_bind (wpS_mono (Q:=fun _ st3=>arrOf st3=o.toList.zipIdx.foldl (fun a (p:Keyed×Nat)=>a.setIfInBounds (sa+u+p.2) p.1) (arrOf st2)/\kindOf st3=kindOf st2/\pendingOf st3=pendingOf st2/\failedOf st3=failedOf st2) (wpS_modify ⟨rfl,rfl,rfl,rfl⟩) ?_);rintro _ st3 ⟨a3,k3,p3,f3⟩;obtain⟨γ',M⟩:=fin o st2 sm2 rt st3 a3 k3 p3 f3;refine wpS_bind (wpS_get ?_);have hf:failedOf st3=none:=M.rp.fine;have:=q st3 γ' M (p3.trans (sm2.pend.trans pd1));refine wpS_pure ?_;rw[show((sortPriv% PySem.Builtin.SortState.failed) st3).isNone=true by rw[show(sortPriv% PySem.Builtin.SortState.failed) st3=none from hf];rfl]
  exact this
 ·refine wpS_f e5 ?_;refine wpS_bind (mhi_ok C hk1 T fun o st2 sm2 rt=>?_);refine wpS_bind (wpS_mono (Q:=fun _ st3=>arrOf st3=o.toList.zipIdx.foldl (fun a (p:Keyed×Nat)=>a.setIfInBounds (sa+u+p.2) p.1) (arrOf st2)/\kindOf st3=kindOf st2/\pendingOf st3=pendingOf st2/\failedOf st3=failedOf st2) (wpS_modify ⟨rfl,rfl,rfl,rfl⟩) ?_);rintro _ st3 ⟨a3,k3,p3,f3⟩;obtain⟨γ',M⟩:=fin o st2 sm2 rt st3 a3 k3 p3 f3;refine wpS_bind (wpS_get ?_);have hf:failedOf st3=none:=M.rp.fine;have:=q st3 γ' M (p3.trans (sm2.pend.trans pd1));refine wpS_pure ?_;rw[show((sortPriv% PySem.Builtin.SortState.failed) st3).isNone=true by rw[show(sortPriv% PySem.Builtin.SortState.failed) st3=none from hf];rfl]
  exact this
end
end TS
namespace TS
open PySem PyProof.Rows
noncomputable def srun:StateT SortSt Sem Unit:=sortPriv% PySem.Builtin.sortRuns
noncomputable abbrev Run:=Nat×Nat×Nat
noncomputable def Cv (c:Nat->Nat->Bool) (γ:Array Nat):Nat->List Run->Nat->Prop
 | a,[],b=>a=b
 | a,r::l,b=>r.1=a/\1<=r.2.1/\Sg c γ a (a+r.2.1)/\Ow γ a (a+r.2.1)/\Cv c γ (a+r.2.1) l b
section
variable {prog:Program} {w:World} {A:Around} {E:Value->Shared->Prop} {s:Shared} {k:SortKind} {f:Nat->Keyed} {N:Nat} {c:Nat->Nat->Bool} {st:SortSt} {γ γ':Array Nat}
theorem Cv.le:∀{l:List Run} {a b:Nat},Cv c γ a l b->a+l.length<=b
 | [],a,b,h=>by cases h;simp
 | r::l,a,b,h=>by
  have:=Cv.le h.2.2.2.2;have:=h.2.1;rw[List.length_cons];omega
theorem Cv.congr:∀{l:List Run} {a b:Nat},Cv c γ a l b->(∀i,a<=i->i<b->γ'[i]?=γ[i]?)->Cv c γ' a l b
 | [],a,b,h,_=>h
 | r::l,a,b,⟨h1,h2,h3,h4,h5⟩,e=>by
  have hb:=Cv.le h5;refine⟨h1,h2,fun i j g h z1 z2 z3 z4 z5=>h3 i j g h z1 z2 z3 (by rw[← e i z1 (by omega)];exact z4) (by rw[← e j (by omega) (by omega)];exact z5),fun i g z1 z2 z3=>h4 i g z1 z2 (by rw[← e i z1 (by omega)];exact z3),Cv.congr h5 fun i z1 z2=>e i (by omega) z2⟩
theorem Cv.app:∀{l m:List Run} {a b:Nat},Cv c γ a (l++m) b↔∃d,Cv c γ a l d/\Cv c γ d m b
 | [],m,a,b=>⟨fun h=>⟨a,rfl,h⟩,fun⟨d,h1,h2⟩=>by cases h1;exact h2⟩
 | r::l,m,a,b=>by
  constructor
  ·rintro⟨h1,h2,h3,h4,h5⟩;obtain⟨d,h6,h7⟩:=Cv.app.mp h5;exact⟨d,⟨h1,h2,h3,h4,h6⟩,h7⟩
  ·rintro⟨d,⟨h1,h2,h3,h4,h6⟩,h7⟩;exact⟨h1,h2,h3,h4,Cv.app.mpr ⟨d,h6,h7⟩⟩
structure Sr (k:SortKind) (f:Nat->Keyed) (N:Nat) (c:Nat->Nat->Bool) (lo:Nat) (δ:Array Nat) (st:SortSt) (γ:Array Nat):Prop where
 rp:Rp k f N st γ
 cv:Cv c γ 0 (pendingOf st).toList lo
 tl:∀i,lo<=i->γ[i]?=δ[i]?
 le:lo<=N
theorem two_of {l:List Run} {i:Nat} (h:i+1<l.length):∃l1 r1 r2 l2,l=l1++r1::r2::l2/\l1.length=i:=by
 refine⟨l.take i,l[i],l[i+1],l.drop (i+2),?_,by rw[List.length_take];omega⟩
 have h1:=List.take_append_drop i l;rw[List.drop_eq_getElem_cons (by omega:i<l.length),List.drop_eq_getElem_cons (by omega:i+1<l.length)]at h1
 exact h1.symm
theorem erase_two (l1 l2:List Run) (r1 r2 r:Run):((l1++r1::r2::l2).set l1.length r).eraseIdx (l1.length+1)=l1++r::l2:=by
 rw[List.set_append_right _ _ (Nat.le_refl _),Nat.sub_self,List.set_cons_zero,List.eraseIdx_append_of_length_le (by omega)]
 congr 1;rw[show l1.length+1 - l1.length=1 by omega];rfl
theorem sr_merge (C:Cm prog w A s k f N c) {lo i:Nat} {δ:Array Nat} (S:Sr k f N c lo δ st γ) (hi:i+1<(pendingOf st).size) {Q:Bool->SortSt->Prop}
  (q:∀st' γ',Sr k f N c lo δ st' γ'->(pendingOf st').size+1=(pendingOf st).size->Q true st'):wpS (model prog w) A E s ((sortPriv% PySem.Builtin.mergeAt) i) Q st:=by
 obtain⟨l1,⟨sa,na,p1⟩,⟨sb,nb,p2⟩,l2,hl,hl1⟩:=two_of (l:=(pendingOf st).toList) (i:=i) (by rw[Array.length_toList];exact hi)
 have cv:=S.cv;rw[hl]at cv;obtain⟨d,c1,c2⟩:=Cv.app.mp cv;obtain⟨h1,h2,h3,h4,h5,h6,h7,h8,h9⟩:=c2;dsimp only at h1 h2 h3 h4 h5 h6 h7 h8 h9;subst h1 h5;have hle:=Cv.le h9;have hN:=S.le;have e1:(pendingOf st)[i]?=some (sa,na,p1):=by rw[← Array.getElem?_toList,hl,← hl1,List.getElem?_append_right (Nat.le_refl _),Nat.sub_self];rfl
 have e2:(pendingOf st)[i+1]?=some (sa+na,nb,p2):=by rw[← Array.getElem?_toList,hl,← hl1,List.getElem?_append_right (by omega),show l1.length+1 - l1.length=1 by omega];rfl
 refine mat_ok C S.rp e1 e2 h2 h6 (by omega) h3 h4 h7 h8 fun st' γ' M pd=>?_
 have out:∀i,i<sa∨sa+(na+nb)<=i->γ'[i]?=γ[i]?:=M.out;have hp:(pendingOf st').toList=l1++(sa,na+nb,p1)::l2:=by
  rw[pd,Array.toList_eraseIdxIfInBounds,Array.toList_setIfInBounds,hl,← hl1,erase_two]
 refine q st' γ' ⟨M.rp,?_,fun i z1=>?_,S.le⟩ ?_
 ·rw[hp];refine Cv.app.mpr ⟨sa,c1.congr fun i z1 z2=>out i (.inl z2),rfl,by show 1<=na+nb;omega,M.sg,M.ow,?_⟩
  show Cv c γ' (sa+(na+nb)) l2 lo;rw[← Nat.add_assoc];exact h9.congr fun i z1 z2=>out i (.inr (by omega))
 ·rw[out i (.inr (by omega))];exact S.tl i z1
 ·have a1:(pendingOf st').size=(l1++(sa,na+nb,p1)::l2).length:=by rw[← hp,Array.length_toList]
  have a2:(pendingOf st).size=(l1++(sa,na,p1)::(sa+na,nb,p2)::l2).length:=by rw[← hl,Array.length_toList]
  rw[a1,a2];simp only[List.length_append,List.length_cons];omega
theorem Cv.modify {g:Run->Run} (hg:∀r,(g r).1=r.1/\(g r).2.1=r.2.1):∀{l:List Run} {i a b:Nat},Cv c γ a l b->Cv c γ a (l.modify i g) b
 | [],i,a,b,h=>by simpa using h
 | r::l,0,a,b,⟨h1,h2,h3,h4,h5⟩=>by
  rw[List.modify_zero_cons];have:=hg r;exact⟨this.1.trans h1,by rw[this.2];exact h2,by rw[this.2];exact h3,by rw[this.2];exact h4,by rw[this.2];exact h5⟩
 | r::l,i+1,a,b,⟨h1,h2,h3,h4,h5⟩=>by
  rw[List.modify_succ_cons];exact⟨h1,h2,h3,h4,Cv.modify hg h5⟩
theorem bin_ok (C:Cm prog w A s k f N c) (R:Rp k f N st γ) {lo n ok:Nat} (hn:lo+n<=N) (h1:1<=ok) (hok:ok<=n) (sg:Sg c γ lo (lo+ok)) (ow:Ow γ lo (lo+ok)) (raw:Raw γ (lo+ok) N)
  {Q:Bool->SortSt->Prop} (q:∀(x:Array Keyed) (γ':Array Nat),Rp k f N (setArr st x) γ'->Sg c γ' lo (lo+n)->Ow γ' lo (lo+n)->Raw γ' (lo+n) N->Out γ γ' lo (lo+n)->Q true (setArr st x)) :
  wpS (model prog w) A E s ((sortPriv% PySem.Builtin.binarySort) lo n ok) Q st:=bins_ok C R hn h1 hok sg ow raw q
theorem cnt_ok (C:Cm prog w A s k f N c) (R:Rp k f N st γ) {lo:Nat} (hl:lo<N) (raw:Raw γ lo N)
  {Q:Option Nat->SortSt->Prop} (q:∀n st',1<=n->lo+n<=N->Rn k f N c lo st γ n st'->Q (some n) st'):wpS (model prog w) A E s ((sortPriv% PySem.Builtin.countRun) lo (N-lo)) Q st:=run_ok C R hl raw q
theorem srun_ok (C:Cm prog w A s k f N c) (R:Rp k f N st γ) (hp:pendingOf st=#[]) (raw:Raw γ 0 N) {Q:Unit->SortSt->Prop} (q:∀st' γ',Rp k f N st' γ'->Sg c γ' 0 N->Q ⟨⟩ st'):wpS (model prog w) A E s srun Q st:=by
 have hsz:((sortPriv% PySem.Builtin.SortState.a) st).size=N:=by
  have:=congrArg Array.size R.arr;rw[Array.size_map,R.size]at this;exact this
 refine wpS_bind (wpS_get ?_);dsimp only;rw[hsz];refine wpS_bind (wpS_mono (wpS_forRange (I:=fun x r st'=>∃lo,r=(none,lo)/\x<=lo/\∃γ',Sr k f N c lo γ' st' γ'/\Raw γ' lo N) (Q:=fun r st'=>r=(none,N)/\∃γ',Sr k f N c N γ' st' γ') ?step ?fin ?init) ?post)
 case init=>exact⟨0,rfl,Nat.le_refl _,γ,⟨R,by rw[hp];rfl,fun _ _=>rfl,Nat.zero_le _⟩,raw⟩
 case fin =>
  rintro r st' ⟨lo,rfl,hx,γ',S,rw'⟩;have:=S.le;obtain rfl:lo=N:=by omega
  exact⟨rfl,γ',S⟩
 case step =>
  rintro x r st' _ hxN ⟨lo,rfl,hx,γ',S,raw'⟩;dsimp only;by_cases hl:lo ≥ N
  ·refine wpS_t hl ?_;have:=S.le;obtain rfl:lo=N:=by omega
   exact wpS_pure ⟨rfl,γ',S⟩
  refine wpS_f hl ?_;refine wpS_bind (cnt_ok C S.rp (by omega) raw' fun n st1 hn1 hn2 rn=>?_)
  obtain⟨xa,γ1,hst1,R1,sg1,ow1,raw1,out1⟩:=rn;have pd1:pendingOf st1=pendingOf st':=by rw[hst1]
  dsimp only;by_cases hm:n<(sortPriv% PySem.Builtin.minRun) N N 0
  ·refine wpS_t hm ?_;refine wpS_bind (wpS_lift (wpAny_rule ⟨rfl,?_⟩));generalize hm2:min (N-lo) ((sortPriv% PySem.Builtin.minRun) N N 0)=n2;have hn3:n<=n2:=by rw[← hm2];omega
   have hn4:lo+n2<=N:=by rw[← hm2];omega
   refine wpS_bind (bin_ok C R1 hn4 hn1 hn3 sg1 ow1 raw1 fun xb γ2b R2 sg2 ow2 raw2 out2=>?_);have pd2:pendingOf (setArr st1 xb)=pendingOf st':=pd1;have out3:Out γ' γ2b lo (lo+n2):=fun i hi=>(out2 i hi).trans (out1 i (by omega))
   generalize setArr st1 xb=st1b at R2 pd2 ⊢;have hn1b:1<=n2:=by omega
   refine wpS_f (by decide) ?_
   refine wpS_bind (wpS_get ?_);have cv1:Cv c γ2b 0 (pendingOf st1b).toList lo:=by rw[pd2];exact S.cv.congr fun i _ z2=>out3 i (.inl z2)
   have S1:Sr k f N c lo γ2b st1b γ2b:=⟨R2,cv1,fun _ _=>rfl,S.le⟩;have push:∀(st2:SortSt) (γ2:Array Nat),Sr k f N c lo γ2b st2 γ2->∀st3:SortSt,arrOf st3=arrOf st2->kindOf st3=kindOf st2->failedOf st3=failedOf st2->pendingOf st3=(pendingOf st2).push (lo,n2,0)->∃γ',Sr k f N c (lo+n2) γ' st3 γ'/\Raw γ' (lo+n2) N:=fun st2 γ2 S2 st3 a3 k3 f3 p3=>by
    refine⟨γ2,⟨⟨a3.trans S2.rp.arr,k3.trans S2.rp.kind,f3.trans S2.rp.fine,S2.rp.perm⟩,?_,fun _ _=>rfl,hn4⟩,fun i z1 z2=>?_⟩
    ·rw[p3,Array.toList_push];refine Cv.app.mpr ⟨lo,S2.cv,rfl,hn1b,fun i j g h z1 z2 z3 z4 z5=>?_,fun i g z1 z2 z3=>?_,rfl⟩
     ·exact sg2 i j g h z1 z2 z3 (by rw[← S2.tl i z1];exact z4) (by rw[← S2.tl j (by omega)];exact z5)
     ·exact ow2 i g z1 z2 (by rw[← S2.tl i z1];exact z3)
    ·rw[S2.tl i (by omega)];exact raw2 i z1 z2
   split
   ·rename_i s1 n1 sd hback
    refine wpS_bind (wpS_mono (wpS_forRange (I:=fun _ r st2=>r=(none,())/\∃γ2,Sr k f N c lo γ2b st2 γ2) (Q:=fun r st2=>r=(none,())/\∃γ2,Sr k f N c lo γ2b st2 γ2) ?step2 ?fin2 ?init2) ?post2)
    case init2=>exact⟨rfl,γ2b,S1⟩
    case fin2=>exact fun r st2 h=>h
    case step2 =>
     rintro y r st2 _ _ ⟨rfl,γ2,S2⟩;refine wpS_bind (wpS_get ?_);split
     ·rename_i o1 o2 older hold
      have hsz2:(pendingOf st2).size > 1:=by
       by_cases hz:(pendingOf st2).size > 1
       ·exact hz
       ·rw[if_neg hz]at hold;cases hold
      by_cases ho:older<=(sortPriv% PySem.Builtin.power) N (2*s1+n1) (2*s1+n1+n1+n2) N
      ·refine wpS_t ho ?_;exact wpS_pure ⟨rfl,γ2,S2⟩
      ·refine wpS_f ho ?_;refine wpS_bind (sr_merge C S2 (i:=(pendingOf st2).size-2) (by omega) fun st3 γ3 S3 _=>?_)
       exact wpS_pure ⟨rfl,γ3,S3⟩
     ·exact wpS_pure ⟨rfl,γ2,S2⟩
    case post2 =>
     rintro r st2 ⟨rfl,γ2,S2⟩;dsimp only;refine wpS_bind (wpS_mono (Q:=fun _ st3=>∃γ3,Sr k f N c lo γ2b st3 γ3) (wpS_modify ⟨γ2,⟨S2.rp.arr,S2.rp.kind,S2.rp.fine,S2.rp.perm⟩,?_,S2.tl,S2.le⟩) ?_)
     ·show Cv c γ2 0 ((pendingOf st2).modify ((pendingOf st2).size-1) _).toList lo;rw[Array.toList_modify];refine Cv.modify (g:=fun x=>(x.1,x.2.1,_)) (fun r=>?_) S2.cv;exact⟨rfl,rfl⟩
     rintro _ st3 ⟨γ3,S3⟩;refine wpS_bind (wpS_mono (Q:=fun _ st4=>∃γ',Sr k f N c (lo+n2) γ' st4 γ'/\Raw γ' (lo+n2) N) (wpS_modify (push st3 γ3 S3 _ rfl rfl rfl rfl)) ?_);rintro _ st4 ⟨γ4,S4,raw4⟩;exact wpS_pure ⟨_,rfl,by omega,γ4,S4,raw4⟩
   ·refine wpS_bind (wpS_mono (Q:=fun _ st4=>∃γ',Sr k f N c (lo+n2) γ' st4 γ'/\Raw γ' (lo+n2) N) (wpS_modify (push st1b γ2b S1 _ rfl rfl rfl rfl)) ?_);rintro _ st4 ⟨γ4,S4,raw4⟩;exact wpS_pure ⟨_,rfl,by omega,γ4,S4,raw4⟩
  ·refine wpS_f hm ?_;refine wpS_bind (wpS_get ?_);have cv1:Cv c γ1 0 (pendingOf st1).toList lo:=by rw[pd1];exact S.cv.congr fun i _ z2=>out1 i (.inl z2)
   have S1:Sr k f N c lo γ1 st1 γ1:=⟨R1,cv1,fun _ _=>rfl,S.le⟩;have push:∀(st2:SortSt) (γ2:Array Nat),Sr k f N c lo γ1 st2 γ2->∀st3:SortSt,arrOf st3=arrOf st2->kindOf st3=kindOf st2->failedOf st3=failedOf st2->pendingOf st3=(pendingOf st2).push (lo,n,0)->∃γ',Sr k f N c (lo+n) γ' st3 γ'/\Raw γ' (lo+n) N:=fun st2 γ2 S2 st3 a3 k3 f3 p3=>by
    refine⟨γ2,⟨⟨a3.trans S2.rp.arr,k3.trans S2.rp.kind,f3.trans S2.rp.fine,S2.rp.perm⟩,?_,fun _ _=>rfl,hn2⟩,fun i z1 z2=>?_⟩
    ·rw[p3,Array.toList_push];refine Cv.app.mpr ⟨lo,S2.cv,rfl,hn1,fun i j g h z1 z2 z3 z4 z5=>?_,fun i g z1 z2 z3=>?_,rfl⟩
     ·exact sg1 i j g h z1 z2 z3 (by rw[← S2.tl i z1];exact z4) (by rw[← S2.tl j (by omega)];exact z5)
     ·exact ow1 i g z1 z2 (by rw[← S2.tl i z1];exact z3)
    ·rw[S2.tl i (by omega)];exact raw1 i z1 z2
   split
   ·rename_i s1 n1 sd hback
    refine wpS_bind (wpS_mono (wpS_forRange (I:=fun _ r st2=>r=(none,())/\∃γ2,Sr k f N c lo γ1 st2 γ2) (Q:=fun r st2=>r=(none,())/\∃γ2,Sr k f N c lo γ1 st2 γ2) ?step2 ?fin2 ?init2) ?post2)
    case init2=>exact⟨rfl,γ1,S1⟩
    case fin2=>exact fun r st2 h=>h
    case step2 =>
     rintro y r st2 _ _ ⟨rfl,γ2,S2⟩;refine wpS_bind (wpS_get ?_);split
     ·rename_i o1 o2 older hold
      have hsz2:(pendingOf st2).size > 1:=by
       by_cases hz:(pendingOf st2).size > 1
       ·exact hz
       ·rw[if_neg hz]at hold;cases hold
      by_cases ho:older<=(sortPriv% PySem.Builtin.power) N (2*s1+n1) (2*s1+n1+n1+n) N
      ·refine wpS_t ho ?_;exact wpS_pure ⟨rfl,γ2,S2⟩
      ·refine wpS_f ho ?_;refine wpS_bind (sr_merge C S2 (i:=(pendingOf st2).size-2) (by omega) fun st3 γ3 S3 _=>?_)
       exact wpS_pure ⟨rfl,γ3,S3⟩
     ·exact wpS_pure ⟨rfl,γ2,S2⟩
    case post2 =>
     rintro r st2 ⟨rfl,γ2,S2⟩;dsimp only;refine wpS_bind (wpS_mono (Q:=fun _ st3=>∃γ3,Sr k f N c lo γ1 st3 γ3) (wpS_modify ⟨γ2,⟨S2.rp.arr,S2.rp.kind,S2.rp.fine,S2.rp.perm⟩,?_,S2.tl,S2.le⟩) ?_)
     ·show Cv c γ2 0 ((pendingOf st2).modify ((pendingOf st2).size-1) _).toList lo;rw[Array.toList_modify];refine Cv.modify (g:=fun x=>(x.1,x.2.1,_)) (fun r=>?_) S2.cv;exact⟨rfl,rfl⟩
     rintro _ st3 ⟨γ3,S3⟩;refine wpS_bind (wpS_mono (Q:=fun _ st4=>∃γ',Sr k f N c (lo+n) γ' st4 γ'/\Raw γ' (lo+n) N) (wpS_modify (push st3 γ3 S3 _ rfl rfl rfl rfl)) ?_);rintro _ st4 ⟨γ4,S4,raw4⟩;exact wpS_pure ⟨_,rfl,by omega,γ4,S4,raw4⟩
   ·refine wpS_bind (wpS_mono (Q:=fun _ st4=>∃γ',Sr k f N c (lo+n) γ' st4 γ'/\Raw γ' (lo+n) N) (wpS_modify (push st1 γ1 S1 _ rfl rfl rfl rfl)) ?_);rintro _ st4 ⟨γ4,S4,raw4⟩;exact wpS_pure ⟨_,rfl,by omega,γ4,S4,raw4⟩
 case post =>
  rintro r st' ⟨rfl,γ',S⟩;dsimp only;refine wpS_bind (wpS_mono (wpS_forRange (I:=fun x r st2=>r=(none,())/\∃γ2,Sr k f N c N γ' st2 γ2/\(pendingOf st2).size+x<=N) (Q:=fun r st2=>r=(none,())/\∃γ2,Sr k f N c N γ' st2 γ2/\(pendingOf st2).size<=1) ?step3 ?fin3 ?init3) ?post3)
  case init3 =>
   refine⟨rfl,γ',S,?_⟩;have:=S.cv.le;rw[Array.length_toList]at this;omega
  case fin3 =>
   rintro r st2 ⟨rfl,γ2,S2,hz⟩;exact⟨rfl,γ2,S2,by omega⟩
  case step3 =>
   rintro y r st2 _ _ ⟨rfl,γ2,S2,hz⟩;refine wpS_bind (wpS_get ?_);by_cases h1:((sortPriv% PySem.Builtin.SortState.pending) st2).size<=1
   ·refine wpS_t h1 ?_;exact wpS_pure ⟨rfl,γ2,S2,h1⟩
   refine wpS_f h1 ?_;have h1':¬ (pendingOf st2).size<=1:=h1;refine wpS_bind (sr_merge C S2 ?_ fun st3 γ3 S3 hs3=>wpS_pure ⟨rfl,γ3,S3,by omega⟩)
   have pick:∀(p:Prop) [Decidable p],(if p then(pendingOf st2).size-2-1 else(pendingOf st2).size-2)+1<(pendingOf st2).size:=fun p _=>by
    split<;>omega
   exact pick _
  case post3 =>
   rintro r st2 ⟨rfl,γ2,S2,hz⟩;dsimp only;refine wpS_pure (q st2 γ2 S2.rp ?_);have cv:=S2.cv;rw[← Array.length_toList]at hz;generalize (pendingOf st2).toList=l at cv hz;cases l with
   | nil =>
    have:0=N:=cv;subst this;exact fun i j g h z1 z2 z3=>by omega
   | cons r l =>
    cases l with
    | cons _ _=>simp at hz
    | nil =>
     obtain⟨h1,h2,h3,h4,h5⟩:=cv;have e:0+r.2.1=N:=h5;rw[e]at h3;exact h3
end
end TS
namespace VF
open PySem L2
open Classical in
noncomputable def ltL (lt:D->D->Bool):List D->List D->Bool
 | [],[]=>false
 | [],_::_=>true
 | _::_,[]=>false
 | x::xs,y::ys=>if x=y then ltL lt xs ys else lt x y
noncomputable def ltN:Nat->D->D->Bool
 | 0,_,_=>false
 | _+1,.int i,.int j=>decide (i<j)
 | _+1,.str x,.str y=>decide (x.cps.toList<y.cps.toList)
 | n+1,.tup xs,.tup ys=>ltL (ltN n) xs ys
 | _+1,_,_=>false
noncomputable def Cp:Nat->D->D->Prop
 | 0,_,_=>False
 | _+1,.int _,.int _=>True
 | _+1,.str _,.str _=>True
 | n+1,.tup xs,.tup ys=>∀(i:Nat) x y,xs[i]?=some x->ys[i]?=some y->Cp n x y
 | _+1,_,_=>False
theorem ltL_irr {lt:D->D->Bool}:∀(xs:List D),ltL lt xs xs=false
 | []=>rfl
 | x::xs=>by
  unfold ltL;rw[if_pos rfl];exact ltL_irr xs
theorem ltN_irr:∀(n:Nat) (a:D),ltN n a a=false
 | 0,_=>rfl
 | n+1,a=>by
  cases a with
  | int i=>exact decide_eq_false (Int.lt_irrefl i)
  | str x=>exact decide_eq_false (List.lt_irrefl _)
  | tup xs=>exact ltL_irr xs
  | _=>rfl
structure Or (n:Nat):Prop where
 tri:∀{a b:D},Cp n a b->a=b∨ltN n a b=true∨ltN n b a=true
 tra:∀{a b c:D},Cp n a b->Cp n b c->Cp n a c->ltN n a b=true->ltN n b c=true->ltN n a c=true
noncomputable abbrev Cl (n:Nat) (xs ys:List D):Prop:=∀(i:Nat) x y,xs[i]?=some x->ys[i]?=some y->Cp n x y
theorem Cl.tail {n:Nat} {x y:D} {xs ys:List D} (h:Cl n (x::xs) (y::ys)):Cl n xs ys:=fun i a b e1 e2=>h (i+1) a b (by simpa using e1) (by simpa using e2)
theorem Cl.head {n:Nat} {x y:D} {xs ys:List D} (h:Cl n (x::xs) (y::ys)):Cp n x y:=h 0 x y rfl rfl
open Classical in
theorem ltL_cons_eq {lt:D->D->Bool} {x:D} {xs ys:List D}:ltL lt (x::xs) (x::ys)=ltL lt xs ys:=by
 show(if x=x then ltL lt xs ys else lt x x)=_;rw[if_pos rfl]
open Classical in
theorem ltL_cons_ne {lt:D->D->Bool} {x y:D} {xs ys:List D} (h:x≠y):ltL lt (x::xs) (y::ys)=lt x y:=by
 show(if x=y then ltL lt xs ys else lt x y)=_;rw[if_neg h]
theorem ltL_tri {n:Nat} (O:Or n):∀{xs ys:List D},Cl n xs ys->xs=ys∨ltL (ltN n) xs ys=true∨ltL (ltN n) ys xs=true
 | [],[],_=>.inl rfl
 | [],_::_,_=>.inr (.inl rfl)
 | _::_,[],_=>.inr (.inr rfl)
 | x::xs,y::ys,h=>by
  by_cases e:x=y
  ·subst e;rw[ltL_cons_eq,ltL_cons_eq];rcases ltL_tri O h.tail with q|q
   ·exact .inl (by rw[q])
   ·exact .inr q
  ·rw[ltL_cons_ne e,ltL_cons_ne (Ne.symm e)];rcases O.tri h.head with q|q
   ·exact absurd q e
   ·exact .inr q
theorem ltL_tra {n:Nat} (O:Or n):∀{xs ys zs:List D},Cl n xs ys->Cl n ys zs->Cl n xs zs->ltL (ltN n) xs ys=true->ltL (ltN n) ys zs=true->ltL (ltN n) xs zs=true
 | [],[],[],_,_,_,h1,_=>h1
 | [],_::_,[],_,_,_,_,h2=>h2
 | [],_,_::_,_,_,_,_,_=>rfl
 | _::_,[],_,_,_,_,h1,_=>by cases h1
 | _::_,_::_,[],_,_,_,_,h2=>by cases h2
 | x::xs,y::ys,z::zs,c1,c2,c3,h1,h2=>by
  by_cases e1:x=y
  ·subst e1;rw[ltL_cons_eq]at h1;by_cases e2:x=z
   ·subst e2;rw[ltL_cons_eq]at h2 ⊢;exact ltL_tra O c1.tail c2.tail c3.tail h1 h2
   ·rw[ltL_cons_ne e2]at h2 ⊢;exact h2
  ·rw[ltL_cons_ne e1]at h1;by_cases e2:y=z
   ·subst e2;rw[ltL_cons_ne e1];exact h1
   ·rw[ltL_cons_ne e2]at h2;have h3:=O.tra c1.head c2.head c3.head h1 h2;have e3:x≠z:=fun e=>by subst e;rw[ltN_irr]at h3;cases h3
    rw[ltL_cons_ne e3];exact h3
theorem ltN_or:∀n,Or n
 | 0=>⟨fun h=>h.elim,fun h=>h.elim⟩
 | n+1=>by
  have O:=ltN_or n;refine⟨fun {a b} h=>?_,fun {a b c} h1 h2 h3 l1 l2=>?_⟩
  ·cases a with
   | int i =>
    cases b with
    | int j =>
     rcases Int.lt_trichotomy i j with q|q|q
     ·exact .inr (.inl (decide_eq_true q))
     ·exact .inl (by rw[q])
     ·exact .inr (.inr (decide_eq_true q))
    | _=>exact h.elim
   | str x =>
    cases b with
    | str y =>
     by_cases q:x.cps.toList<y.cps.toList
     ·exact .inr (.inl (decide_eq_true q))
     ·by_cases q':y.cps.toList<x.cps.toList
      ·exact .inr (.inr (decide_eq_true q'))
      ·refine .inl ?_;have:=leS_anti (a:=x) (b:=y) q' q;rw[this]
    | _=>exact h.elim
   | tup xs =>
    cases b with
    | tup ys =>
     rcases ltL_tri O h with q|q
     ·exact .inl (by rw[q])
     ·exact .inr q
    | _=>exact h.elim
   | _=>cases b<;>exact h.elim
  ·cases a with
   | int i =>
    cases b with
    | int j =>
     cases c with
     | int k =>
      have q1:=of_decide_eq_true l1;have q2:=of_decide_eq_true l2;exact decide_eq_true (Int.lt_trans q1 q2)
     | _=>exact h2.elim
    | _=>exact h1.elim
   | str x =>
    cases b with
    | str y =>
     cases c with
     | str z =>
      have q1:=of_decide_eq_true l1;have q2:=of_decide_eq_true l2;exact decide_eq_true (List.lt_trans q1 q2)
     | _=>exact h2.elim
    | _=>exact h1.elim
   | tup xs =>
    cases b with
    | tup ys =>
     cases c with
     | tup zs=>exact ltL_tra O h1 h2 h3 l1 l2
     | _=>exact h2.elim
    | _=>exact h1.elim
   | _=>cases b<;>exact h1.elim
theorem ltL_asy {lt:D->D->Bool} (h:∀a b,lt a b=true->lt b a=false):∀(xs ys:List D),ltL lt xs ys=true->ltL lt ys xs=false
 | [],[],l=>by cases l
 | [],_::_,_=>rfl
 | _::_,[],l=>by cases l
 | x::xs,y::ys,l=>by
  by_cases e:x=y
  ·subst e;rw[ltL_cons_eq]at l ⊢;exact ltL_asy h xs ys l
  ·rw[ltL_cons_ne e]at l;rw[ltL_cons_ne (Ne.symm e)];exact h x y l
theorem ltN_asy:∀(n:Nat) (a b:D),ltN n a b=true->ltN n b a=false
 | 0,_,_,l=>by cases l
 | n+1,a,b,l=>by
  cases a with
  | int i =>
   cases b with
   | int j =>
    have q:=of_decide_eq_true l;exact decide_eq_false (by omega)
   | _=>cases l
  | str x =>
   cases b with
   | str y =>
    have q:=of_decide_eq_true l;exact decide_eq_false (List.lt_asymm q)
   | _=>cases l
  | tup xs =>
   cases b with
   | tup ys=>exact ltL_asy (ltN_asy n) xs ys l
   | _=>cases l
  | _=>cases b<;>cases l
noncomputable def Srt (n:Nat) (es:List D):Prop:=es.Pairwise fun a b=>ltN n b a=false
open Classical in
noncomputable def sortD (n:Nat) (ds:List D):List D:=if h:∃es:List D,es.Perm ds/\Srt n es then h.choose else ds
noncomputable def CA (n:Nat) (ds:List D):Prop:=∀a∈ds,∀b∈ds,Cp n a b
theorem CA.neg {n:Nat} {ds:List D} (h:CA n ds) {a b c:D} (ha:a∈ds) (hb:b∈ds) (hc:c∈ds) (l:ltN n a c=true):ltN n a b=true∨ltN n b c=true:=by
 rcases(ltN_or n).tri (h a ha b hb) with q|q|q
 ·subst q;exact .inr l
 ·exact .inl q
 ·exact .inr ((ltN_or n).tra (h b hb a ha) (h a ha c hc) (h b hb c hc) q l)
theorem sortD_uniq {n:Nat} {ds es:List D} (h:CA n ds) (p:es.Perm ds) (s:Srt n es):es=sortD n ds:=by
 have ex:∃es:List D,es.Perm ds/\Srt n es:=⟨es,p,s⟩;have e:sortD n ds=ex.choose:=by unfold sortD;rw[dif_pos ex]
 obtain⟨p2,s2⟩:=ex.choose_spec;rw[e];refine(p.trans p2.symm).eq_of_pairwise (fun a b ha hb h1 h2=>?_) s s2;rcases(ltN_or n).tri (h a (p.mem_iff.mp ha) b (p2.mem_iff.mp hb)) with q|q|q
 ·exact q
 ·rw[h2]at q;cases q
 ·rw[h1]at q;cases q
end VF
namespace VF
open PySem L2 PySem.SeqAt
open PySem.AutoSeq1 (wpAny_loadPart')
open PySem.MeetsSeq PySem.MeetsSeq2 PySem.MeetsSeq3
noncomputable def LtAt (A:Around) (s:Shared) (u v:Value) (b:Bool):Prop:=∀(prog:Program) (w:World) (E:Value->Shared->Prop) (Q:Value->Shared->Prop),Q (.bool b) s->wpAny (model prog w) A (richCompare .Lt u v) Q E s
open Classical in
inductive IL (A:Around) (s:Shared) (lt:D->D->Bool):List Value->List Value->List D->List D->Prop where
 | left {ws:List Value} {es:List D}:ws.length=es.length->IL A s lt [] ws [] es
 | right {vs:List Value} {ds:List D}:vs.length=ds.length->IL A s lt vs [] ds []
 | cons {v w:Value} {vs ws:List Value} {d e:D} {ds es:List D}:EqAt A.in1 s v w (decide (d=e))->(d≠e->LtAt A.in1 s v w (lt d e))->IL A s lt vs ws ds es->IL A s lt (v::vs) (w::ws) (d::ds) (e::es)
open Classical in
theorem tuple_lt_data (l b:Addr) (items items2:Array Value) (n n2:Nat) (dd dd2:Option Addr) (sl sl2:Array (Option Value)) (lt:D->D->Bool) (ds es:List D) :
  Meets (Builtin.«tuple.__lt__» ⟨[.ref l,.ref b],[]⟩)
   (fun A R s=>s.heap.get? l=some { cls:=.type "tuple",dict:=dd,data:=.seq items n,slots:=sl }/\s.heap.get? b=some { cls:=.type "tuple",dict:=dd2,data:=.seq items2 n2,slots:=sl2 } /\
    IL A s lt items.toList items2.toList ds es/\R (.ok (.ret (.bool (ltL lt ds es)))) s) :=
 .of_wp fun prog w A R s h=>by
  obtain⟨hp,g,d,tk,os⟩:=s;obtain⟨hl,hb,hI,h⟩:=h;have f2:=AutoSeq1.sub_tuple_tuple
  wp_walk using wpAny_loadPart' hl,wpAny_loadPart' hb,wpAny_forIn_list _ (fun rest b s'=>b.1=none/\s'=⟨hp,g,d,tk,os⟩/\∃(vs ws:List Value) (ds' es':List D),rest=vs.zip ws /\
   IL A ⟨hp,g,d,tk,os⟩ lt vs ws ds' es'/\vs.length+items2.size=ws.length+items.size/\R (.ok (.ret (.bool (ltL lt ds' es')))) ⟨hp,g,d,tk,os⟩) _
  case turn =>
   rintro⟨y,x⟩ rest b s' ⟨hb',rfl,vs,ws,ds',es',hz,hi,hlen,hR⟩;cases hi with
   | left _=>rw[List.zip_nil_left]at hz;cases hz
   | right _=>rw[List.zip_nil_right]at hz;cases hz
   | @cons v w' vs' ws' d' e' ds2 es2 he hlt hi' =>
    rw[List.zip_cons_cons]at hz;injection hz with hyx hrest;injection hyx with hy hx;subst hy hx;simp only[List.length_cons]at hlen;refine wpAny_bind (he prog w _ _ ?_);by_cases hde:d'=e'
    ·subst hde;rw[decide_eq_true rfl];rw[ltL_cons_eq]at hR
     wp_walk
     exact⟨rfl,rfl,_,_,_,_,hrest,hi',by omega,hR⟩
    ·rw[decide_eq_false hde];rw[ltL_cons_ne hde]at hR;have hri:=hlt hde prog w
     wp_walk using hri
     exact⟨_,rfl,by simpa using hR⟩
  case fin =>
   rintro⟨b1,b2⟩ s' ⟨hb',rfl,vs,ws,ds',es',hz,hi,hlen,hR⟩;simp only at hb';subst hb';have hv:ltL lt ds' es'=decide (items.size<items2.size):=by
    cases hi with
    | left hl2 =>
     cases es' with
     | nil =>
      simp only[List.length_nil]at hlen hl2;exact(decide_eq_false (by omega)).symm
     | cons e0 e1 =>
      simp only[List.length_nil,List.length_cons]at hlen hl2;exact(decide_eq_true (by omega)).symm
    | right hl2 =>
     cases ds' with
     | nil =>
      simp only[List.length_nil]at hlen hl2;exact(decide_eq_false (by omega)).symm
     | cons e0 e1 =>
      simp only[List.length_nil,List.length_cons]at hlen hl2;exact(decide_eq_false (by omega)).symm
    | cons _ _ _ =>
     rw[List.zip_cons_cons]at hz;cases hz
   rw[hv]at hR
   wp_walk
   exact⟨_,rfl,by simpa[Builtin.Tuple.tupleCompareSizes]using hR⟩
  case h =>
   exact⟨rfl,rfl,items.toList,items2.toList,ds,es,rfl,hI,by simp;omega,h⟩
theorem LtAt.tuples {A:Around} {s:Shared} {l b:Addr} {items items2:Array Value} {lt:D->D->Bool} {ds es:List D} (hl:s.heap.IsTuple l items) (hb:s.heap.IsTuple b items2) (hu:A.units<cLine) (hI:IL A s lt items.toList items2.toList ds es) :
  LtAt A s (.ref l) (.ref b) (ltL lt ds es):=fun prog w E Q h=>by
 obtain⟨⟨cls,dd,data,sl⟩,ho,hc,n,hd⟩:=id hl;obtain⟨⟨cls2,dd2,data2,sl2⟩,ho2,hc2,n2,hd2⟩:=id hb;simp only at hc hd hc2 hd2;subst hc hd hc2 hd2;exact richCompare_meets_room (op:=.Lt) ⟨_,ho,rfl⟩ ⟨_,ho2,rfl⟩ PySem.F.slot_tuple_lt PySem.F.entry_tuple_lt (PySem.F.args_tuple_lt_2 _ _) (tuple_lt_data l b items items2 n n2 dd dd2 sl sl2 lt ds es)
  ⟨ho,ho2,hI,show Value.bool (ltL lt ds es)≠Value.notImplemented/\Q (.bool (ltL lt ds es)) s from⟨(fun x=>nomatch x),h⟩⟩ hu
theorem il_of {A:Around} {s:Shared} {lt:D->D->Bool}:∀{vs ws:List Value} {ds es:List D},vs.length=ds.length->ws.length=es.length ->
  (∀(i:Nat) v w d e,vs[i]?=some v->ws[i]?=some w->ds[i]?=some d->es[i]?=some e->(∀b,(b=true↔d=e)->EqAt A.in1 s v w b)/\(d≠e->LtAt A.in1 s v w (lt d e)))->IL A s lt vs ws ds es
 | [],_,[],_,_,h2,_=>.left h2
 | _::_,[],_::_,[],h1,_,_=>.right h1
 | v::vs,w::ws,d::ds,e::es,h1,h2,h=>by
  obtain⟨a1,a2⟩:=h 0 v w d e rfl rfl rfl rfl;exact .cons (a1 _ (by simp)) a2 (il_of (by simpa using h1) (by simpa using h2) fun i v' w' d' e' z1 z2 z3 z4=>h (i+1) v' w' d' e' (by simpa using z1) (by simpa using z2) (by simpa using z3) (by simpa using z4))
 | [],_,_::_,_,h1,_,_=>by simp at h1
 | _::_,_,[],_,h1,_,_=>by simp at h1
 | _::_,[],_::_,_::_,_,h2,_=>by simp at h2
 | _::_,_::_,_::_,[],_,h2,_=>by simp at h2
open Classical in
theorem eqAt_iff {A:Around} {s:Shared} {u v:Value} {d e:D} (h:EqAt A s u v (decide (d=e))) (b:Bool) (hb:b=true↔d=e):EqAt A s u v b:=by
 have:b=decide (d=e):=by rw[Bool.eq_iff_iff,hb,decide_eq_true_eq]
 rw[this];exact h
theorem RH.ltAt:∀(n:Nat) {s:Shared} {d1 d2:D} {u1 u2:Value} {A:Around},Pl n d1->Pl n d2->Cp n d1 d2->RH s.heap u1 d1->RH s.heap u2 d2->A.units+n<cLine->LtAt A s u1 u2 (ltN n d1 d2):=by
 intro n;induction n with
 | zero=>intro s d1 d2 u1 u2 A p;cases p
 | succ n ih =>
  intro s d1 d2 u1 u2 A p1 p2 cp r1 r2 hu;cases r1 with
  | non=>cases r2<;>exact cp.elim
  | int i t =>
   cases r2 with
   | int j t'=>exact fun prog w E Q h=>HT.rcLt_int A s i t j t' prog w E Q h
   | _=>exact cp.elim
  | str x t =>
   cases r2 with
   | str y t'=>exact fun prog w E Q h=>(PyProof.Rows.lt_str h:wpAny (model prog w) A (compareOp .Lt (.str x t) (.str y t')) Q E s)
   | _=>exact cp.elim
  | lst _ _ _=>cases r2<;>exact cp.elim
  | @tup a its ds t hl f =>
   cases r2 with
   | @tup b its' ds' t' hl' f' =>
    cases p1 with
    | tup p1 =>
    cases p2 with
    | tup p2 =>
    refine LtAt.tuples t t' (by omega) (il_of (by simpa using hl) (by simpa using hl') fun i v w d e z1 z2 z3 z4=>?_)
    have z1':its[i]?=some v:=by simpa using z1
    have z2':its'[i]?=some w:=by simpa using z2
    have m1:=p1 d (List.mem_of_getElem? z3);have m2:=p2 e (List.mem_of_getElem? z4);have hu':A.in1.units+n<cLine:=by show A.units+1+n<cLine;omega
    exact⟨eqAt_iff (RH.eqAt n m1 m2 (f i v d z1' z3) (f' i w e z2' z4) hu').1,fun _=>ih m1 m2 (cp i d e z3 z4) (f i v d z1' z3) (f' i w e z2' z4) hu'⟩
   | _=>exact cp.elim
end VF
namespace VF
open PySem L2 PyProof.Rows PySem.SeqAt
noncomputable def OneAt (A:Around) (s:Shared) (fl:Bool) (u v:Value) (c:Bool):Prop:=∀(prog:Program) (w:World) (E:Value->Shared->Prop) (Q:Bool->Shared->Prop),Q c s->wpAny (model prog w) A (oneLt' fl u v) Q E s
open Classical in
inductive IK (A:Around) (s:Shared) (b:Bool) (lt:D->D->Bool):Nat->List Value->List Value->List D->List D->Prop where
 | left {i:Nat} {ws:List Value} {es:List D}:ws.length=es.length->IK A s b lt i [] ws [] es
 | right {i:Nat} {vs:List Value} {ds:List D}:vs.length=ds.length->IK A s b lt i vs [] ds []
 | cons {i:Nat} {v w:Value} {vs ws:List Value} {d e:D} {ds es:List D}:EqAt A s v w (decide (d=e))->(d≠e->OneAt A s (b&&i == 0) v w (lt d e))->IK A s b lt (i+1) vs ws ds es->IK A s b lt i (v::vs) (w::ws) (d::ds) (e::es)
section
variable {prog:Program} {w:World} {A:Around} {E:Value->Shared->Prop} {s:Shared}
theorem one_f {u v:Value} {c:Bool} (h:LtAt A s u v c):OneAt A s false u v c:=fun prog w E Q q=>by
 rw[oneLt'_eq];dsimp only;rw[if_neg Bool.noConfusion];exact wpAny_bind (h prog w _ _ (wpAny_truthy_bool q))
theorem one_int {a b:Int} {t u:Tok} (fl:Bool):OneAt A s fl (.int a t) (.int b u) (decide (a<b)):=fun prog w E Q q=>by
 cases fl with
 | true=>exact oneLt_int q
 | false=>exact one_f (fun prog w E Q h=>HT.rcLt_int A s a t b u prog w E Q h) prog w E Q q
theorem one_str {a b:Str} {t u:Tok} (fl:Bool):OneAt A s fl (.str a t) (.str b u) (decide (a.cps.toList<b.cps.toList)):=fun prog w E Q q=>by
 cases fl with
 | true=>exact oneLt_str q
 | false=>exact one_f (fun prog w E Q h=>(PyProof.Rows.lt_str h:wpAny (model prog w) A (compareOp .Lt (.str a t) (.str b u)) Q E s)) prog w E Q q
open Classical in
theorem key_tup {l r:Addr} {xs ys:Array Value} {b:Bool} {lt:D->D->Bool} {ds es:List D} {Q:Bool->Shared->Prop} (hl:s.heap.IsTuple l xs) (hr:s.heap.IsTuple r ys) (hI:IK A s b lt 0 xs.toList ys.toList ds es) (q:Q (ltL lt ds es) s) :
  wpAny (model prog w) A (keyLt' (tuples' b) (.ref l) (.ref r)) Q E s:=by
 obtain⟨o1,g1,_,n1,d1⟩:=hl;obtain⟨o2,g2,_,n2,d2⟩:=hr;refine wpAny_bind (listItems_at g1 d1 ?_);refine wpAny_bind (listItems_at g2 d2 ?_);refine wpAny_bind (wpAny_forIn_list _ (fun rest r s'=>s'=s/\r=(none,())/\∃(i:Nat) (vs ws:List Value) (ds' es':List D),rest=(vs.zip ws).zipIdx i/\IK A s b lt i vs ws ds' es'/\vs.length+ys.size=ws.length+xs.size/\Q (ltL lt ds' es') s) _ ?_ ?_ _ _ ?_)
 ·rintro⟨⟨y,x⟩,j⟩ rest r s' ⟨rfl,rfl,i,vs,ws,ds',es',hz,hi,hlen,hR⟩;cases hi with
  | left _=>rw[List.zip_nil_left]at hz;cases hz
  | right _=>rw[List.zip_nil_right]at hz;cases hz
  | @cons _ v w' vs' ws' d' e' ds2 es2 he hlt hi' =>
   rw[List.zip_cons_cons,List.zipIdx_cons]at hz;injection hz with hyx hrest;injection hyx with hy hj;injection hy with hy hx;subst hy hx hj;simp only[List.length_cons]at hlen;dsimp only;refine wpAny_bind (he prog w _ _ ?_);by_cases hde:d'=e'
   ·subst hde;rw[decide_eq_true rfl];rw[ltL_cons_eq]at hR;exact wpAny_pure ⟨rfl,rfl,_,_,_,_,_,hrest,hi',by omega,hR⟩
   ·rw[decide_eq_false hde];rw[ltL_cons_ne hde]at hR;exact wpAny_bind (hlt hde prog w _ _ (wpAny_pure (wpAny_pure hR)))
 ·rintro r s' ⟨rfl,rfl,i,vs,ws,ds',es',hz,hi,hlen,hR⟩;have hv:ltL lt ds' es'=decide (xs.size<ys.size):=by
   cases hi with
   | left hl2 =>
    cases es' with
    | nil =>
     simp only[List.length_nil]at hlen hl2;exact(decide_eq_false (by omega)).symm
    | cons e0 e1 =>
     simp only[List.length_nil,List.length_cons]at hlen hl2;exact(decide_eq_true (by omega)).symm
   | right hl2 =>
    cases ds' with
    | nil =>
     simp only[List.length_nil]at hlen hl2;exact(decide_eq_false (by omega)).symm
    | cons e0 e1 =>
     simp only[List.length_nil,List.length_cons]at hlen hl2;exact(decide_eq_false (by omega)).symm
   | cons _ _ _ =>
    rw[List.zip_cons_cons,List.zipIdx_cons]at hz;cases hz
  rw[hv]at hR;exact wpAny_pure hR
 ·exact⟨rfl,rfl,0,xs.toList,ys.toList,ds,es,rfl,hI,by simp;omega,q⟩
theorem ik_of {b:Bool} {lt:D->D->Bool}:∀{i:Nat} {vs ws:List Value} {ds es:List D},vs.length=ds.length->ws.length=es.length ->
  (∀(j:Nat) v w d e,vs[j]?=some v->ws[j]?=some w->ds[j]?=some d->es[j]?=some e->(∀c,(c=true↔d=e)->EqAt A s v w c)/\(d≠e->OneAt A s (b&&(i+j) == 0) v w (lt d e)))->IK A s b lt i vs ws ds es
 | _,[],_,[],_,_,h2,_=>.left h2
 | _,_::_,[],_::_,[],h1,_,_=>.right h1
 | i,v::vs,w::ws,d::ds,e::es,h1,h2,h=>by
  obtain⟨a1,a2⟩:=h 0 v w d e rfl rfl rfl rfl;refine .cons (a1 _ (by simp)) a2 (ik_of (by simpa using h1) (by simpa using h2) fun j v' w' d' e' z1 z2 z3 z4=>?_)
  have:=h (j+1) v' w' d' e' (by simpa using z1) (by simpa using z2) (by simpa using z3) (by simpa using z4)
  rwa [show i+(j+1)=i+1+j by omega]at this
 | _,[],_,_::_,_,h1,_,_=>by simp at h1
 | _,_::_,_,[],_,h1,_,_=>by simp at h1
 | _,_::_,[],_::_,_::_,_,h2,_=>by simp at h2
 | _,_::_,_::_,_::_,[],_,h2,_=>by simp at h2
noncomputable def fstI (d:D):Prop:=match d with
 | .tup (.int _::_)=>True
 | _=>False
noncomputable def fstS (d:D):Prop:=match d with
 | .tup (.str _::_)=>True
 | _=>False
theorem key_data {n:Nat} {d1 d2:D} {u1 u2:Value} {b:Bool} {Q:Bool->Shared->Prop} (p1:Pl (n+1) d1) (p2:Pl (n+1) d2) (cp:Cp (n+1) d1 d2) (r1:RH s.heap u1 d1) (r2:RH s.heap u2 d2) (hu:A.units+(n+1)<cLine)
  (ht:∃xs,d1=.tup xs) (hb:b=true->(fstI d1/\fstI d2)∨(fstS d1/\fstS d2)) (q:Q (ltN (n+1) d1 d2) s):wpAny (model prog w) A (keyLt' (tuples' b) u1 u2) Q E s:=by
 obtain⟨xs,rfl⟩:=ht;cases r1 with
 | @tup a its ds t hl f =>
  cases r2 with
  | @tup a2 its' ds' t' hl' f' =>
   cases p1 with
   | tup p1 =>
   cases p2 with
   | tup p2 =>
   refine key_tup (lt:=ltN n) (ds:=xs) (es:=ds') t t' (ik_of (by simpa using hl) (by simpa using hl') fun j v w' d e z1 z2 z3 z4=>?_) q
   have z1':its[j]?=some v:=by simpa using z1
   have z2':its'[j]?=some w':=by simpa using z2
   have m1:=p1 d (List.mem_of_getElem? z3);have m2:=p2 e (List.mem_of_getElem? z4);have k1:=f j v d z1' z3;have k2:=f' j w' e z2' z4;have c1:=cp j d e z3 z4;refine⟨eqAt_iff (RH.eqAt n m1 m2 k1 k2 (by omega)).1,fun _=>?_⟩
   cases hfl:(b&&(0+j) == 0) with
   | false=>exact one_f (RH.ltAt n m1 m2 c1 k1 k2 (by omega))
   | true =>
    rw[Bool.and_eq_true]at hfl;have hj:j=0:=by have:=eq_of_beq hfl.2;omega
    subst hj;have hx:xs[0]?=some d:=z3;have hy:ds'[0]?=some e:=z4;cases n with
    | zero=>cases m1
    | succ n =>
    cases xs with
    | nil=>simp at hx
    | cons x0 xr =>
     cases ds' with
     | nil=>simp at hy
     | cons y0 yr =>
      have ex:x0=d:=by simpa using hx
      have ey:y0=e:=by simpa using hy
      subst ex ey;rcases hb hfl.1 with⟨g1,g2⟩|⟨g1,g2⟩
      ·cases x0 with
       | int i =>
        cases y0 with
        | int j =>
         cases k1;cases k2;exact one_int true
        | _=>exact g2.elim
       | _=>exact g1.elim
      ·cases x0 with
       | str i =>
        cases y0 with
        | str j =>
         cases k1;cases k2;exact one_str true
        | _=>exact g2.elim
       | _=>exact g1.elim
  | _=>exact cp.elim
end
end VF
namespace VF
open PySem L2 PyProof.Rows
section
variable {M:Model} {prog:Program} {w:World} {A:Around} {E:Value->Shared->Prop} {s:Shared}
theorem wp_mapM {α β:Type} {f:α->Sem β} {g:α->β}:∀(l:List α),(∀v∈l,∀Q:β->Shared->Prop,Q (g v) s->wpAny M A (f v) Q E s)->∀Q:List β->Shared->Prop,Q (l.map g) s->wpAny M A (l.mapM f) Q E s
 | [],_,Q,q=>by rw[List.mapM_nil];exact wpAny_pure q
 | v::l,h,Q,q=>by
  rw[List.mapM_cons];exact wpAny_bind (h v List.mem_cons_self _ (wpAny_bind (wp_mapM l (fun u hu=>h u (List.mem_cons_of_mem _ hu)) _ (wpAny_pure q))))
theorem wp_mapA {α β:Type} {f:α->Sem β} {g:α->β} {l:List α} (h:∀v∈l,∀Q:β->Shared->Prop,Q (g v) s->wpAny M A (f v) Q E s) {Q:Array β->Shared->Prop} (q:Q (l.map g).toArray s):wpAny M A (l.toArray.mapM f) Q E s:=by
 rw[List.mapM_toArray,map_eq_pure_bind];exact wpAny_bind (wp_mapM l h _ (wpAny_pure q))
noncomputable def tyD:D->String
 | .int _=>"int"
 | .str _=>"str"
 | .tup _=>"tuple"
 | _=>"list"
theorem RH.ty {u:Value} {d:D} (r:RH s.heap u d) (h:d≠.non):s.TypeIs u (tyD d):=by
 cases r with
 | non=>exact absurd rfl h
 | int i t=>exact typeIs_int s i t
 | str x t=>exact typeIs_str s x t
 | tup t _ _=>obtain⟨o,h1,h2,_⟩:=t;exact⟨o,h1,h2⟩
 | lst t _ _=>obtain⟨o,h1,h2,_⟩:=t;exact⟨o,h1,h2⟩
theorem one_ok {us:List Value} {ds:List D} {T:String} (hne:us≠[]) (hl:us.length=ds.length) (r:∀(i:Nat) u d,us[i]?=some u->ds[i]?=some d->RH s.heap u d/\d≠.non/\tyD d=T) {Q:Option Value->Shared->Prop} (q:Q (some (.type T)) s) :
  wpAny M A (oneTypeOnly' us.toArray) Q E s:=by
 rw[oneTypeOnly'_eq];refine wpAny_bind (wp_mapA (g:=fun _=>Value.type T) (fun v hv Q q=>?_) ?_)
 ·obtain⟨i,hi,rfl⟩:=List.mem_iff_getElem.mp hv;obtain⟨r1,r2,r3⟩:=r i us[i] ds[i] (List.getElem?_eq_getElem hi) (List.getElem?_eq_getElem (by omega))
  exact wpAny_typeOf (r3 ▸ r1.ty r2) q
 ·cases us with
  | nil=>exact absurd rfl hne
  | cons u us =>
   have h0:(List.map (fun _=>Value.type T) (u::us)).toArray[0]?=some (Value.type T):=by simp
   rw[h0];have hall:((List.map (fun _=>Value.type T) (u::us)).toArray.all fun x=>x == Value.type T)=true:=by
    simp only[List.all_toArray,List.all_map,List.all_eq_true];intro _ _;exact beq_self_eq_true _
   dsimp only;rw[hall,if_pos rfl];exact wpAny_pure q
theorem first_sc {u:Value} {d:D} {Q:Option Value->Shared->Prop} (r:RH s.heap u d) (h:d≠.non) (ht:tyD d≠"tuple") (q:Q none s):wpAny M A (firstOfTuple' u) Q E s:=by
 refine wpAny_bind (wpAny_typeOf (r.ty h) ?_);rw[if_pos (by rw[bne_iff_ne];intro e;injection e with e;exact ht e)]
 exact wpAny_pure q
theorem first_tup {a:Addr} {its:List Value} {u:Value} {us:List Value} {Q:Option Value->Shared->Prop} (t:s.heap.IsTuple a its.toArray) (e:its=u::us) (q:Q (some u) s):wpAny M A (firstOfTuple' (.ref a)) Q E s:=by
 obtain⟨o,h1,h2,n,h3⟩:=t;refine wpAny_bind (wpAny_typeOf (T:="tuple") ⟨o,h1,h2⟩ ?_);rw[if_neg (by rw[bne_iff_ne];intro z;exact z rfl)]
 refine wpAny_bind (listItems_at h1 h3 ?_);subst e;exact wpAny_pure q
inductive Kd:List D->SortKind->Prop where
 | sc {ds:List D} {T:String}:T≠"tuple"->(∀d∈ds,d≠.non/\tyD d=T)->Kd ds oneType'
 | tp {ds:List D} {T:String}:(∀d∈ds,∃x xs,d=.tup (x::xs)/\x≠.non/\tyD x=T)->Kd ds (tuples' (T != "tuple"))
theorem kk_ok {us:List Value} {ds:List D} {κ:SortKind} (hne:us≠[]) (hl:us.length=ds.length) (r:∀(i:Nat) u d,us[i]?=some u->ds[i]?=some d->RH s.heap u d) (hk:Kd ds κ) {Q:SortKind->Shared->Prop} (q:Q κ s) :
  wpAny M A (keyKind' us.toArray) Q E s:=by
 rw[keyKind'_eq];cases hk with
 | @sc T hT h =>
  refine wpAny_bind (wp_mapA (g:=fun _=>none) (fun v hv Q q=>?_) ?_)
  ·obtain⟨i,hi,rfl⟩:=List.mem_iff_getElem.mp hv;have hd:=h ds[i] (List.getElem_mem _);exact first_sc (r i _ _ (List.getElem?_eq_getElem hi) (List.getElem?_eq_getElem (by omega))) hd.1 (by rw[hd.2];exact hT) q
  ·cases us with
   | nil=>exact absurd rfl hne
   | cons u us =>
    rw[if_neg (by simp),if_neg (by simp)]
    refine wpAny_bind (one_ok (T:=T) hne hl (fun i u d e1 e2=>⟨r i u d e1 e2,h d (List.mem_of_getElem? e2)⟩) ?_);exact wpAny_pure q
 | @tp T h =>
  have hx:∀(i:Nat) (hi:i<us.length),∃u0 x xs,(∀Q:Option Value->Shared->Prop,Q (some u0) s->wpAny M A (firstOfTuple' us[i]) Q E s)/\ds[i]?=some (.tup (x::xs))/\RH s.heap u0 x/\x≠.non/\tyD x=T:=fun i hi=>by
   have hd:i<ds.length:=by omega
   obtain⟨x,xs,e,h1,h2⟩:=h ds[i] (List.getElem_mem _);have rr:=r i us[i] ds[i] (List.getElem?_eq_getElem hi) (List.getElem?_eq_getElem hd);rw[e]at rr;generalize us[i]=v at rr;cases rr with
   | @tup a its _ t hl f =>
    cases its with
    | nil=>simp at hl
    | cons u0 ur=>exact⟨u0,x,xs,fun Q q=>first_tup t rfl q,by rw[List.getElem?_eq_getElem hd,e],f 0 u0 x rfl rfl,h1,h2⟩
  have hf:∃fs:List Value,fs.length=us.length/\(∀Q:Array (Option Value)->Shared->Prop,Q (fs.map some).toArray s->wpAny M A (us.toArray.mapM firstOfTuple') Q E s)/\∀(i:Nat) u,fs[i]?=some u->∃x,RH s.heap u x/\x≠.non/\tyD x=T:=by
   have:∀l:List Value,(∀v∈l,∃u0 x,(∀Q:Option Value->Shared->Prop,Q (some u0) s->wpAny M A (firstOfTuple' v) Q E s)/\RH s.heap u0 x/\x≠.non/\tyD x=T) ->
     ∃fs:List Value,fs.length=l.length/\(∀Q:List (Option Value)->Shared->Prop,Q (fs.map some) s->wpAny M A (l.mapM firstOfTuple') Q E s)/\∀(i:Nat) u,fs[i]?=some u->∃x,RH s.heap u x/\x≠.non/\tyD x=T:=fun l=>by
    induction l with
    | nil=>exact fun _=>⟨[],rfl,fun Q q=>by rw[List.mapM_nil];exact wpAny_pure q,fun i u e=>by simp at e⟩
    | cons v l ih =>
     intro hv;obtain⟨fs,f1,f2,f3⟩:=ih fun u hu=>hv u (List.mem_cons_of_mem _ hu);obtain⟨u0,x,g1,g2⟩:=hv v List.mem_cons_self;refine⟨u0::fs,by simp[f1],fun Q q=>?_,fun i u e=>?_⟩
     ·rw[List.mapM_cons];exact wpAny_bind (g1 _ (wpAny_bind (f2 _ (wpAny_pure q))))
     ·cases i with
      | zero =>
       have:u0=u:=by simpa using e
       subst this;exact⟨x,g2⟩
      | succ i=>exact f3 i u (by simpa using e)
   obtain⟨fs,f1,f2,f3⟩:=this us fun v hv=>by
    obtain⟨i,hi,rfl⟩:=List.mem_iff_getElem.mp hv;obtain⟨u0,x,xs,a1,_,a2⟩:=hx i hi;exact⟨u0,x,a1,a2⟩
   refine⟨fs,f1,fun Q q=>?_,f3⟩;rw[List.mapM_toArray,map_eq_pure_bind];exact wpAny_bind (f2 _ (wpAny_pure q))
  obtain⟨fs,f1,f2,f3⟩:=hf;refine wpAny_bind (f2 _ ?_);rw[if_pos (by simp)]
  refine wpAny_bind (wpAny_rule ?_);have e1:(fs.map some).toArray.filterMap id=fs.toArray:=by simp
  rw[e1];have hne':fs≠[]:=fun z=>by
   rw[z]at f1;exact hne (List.eq_nil_of_length_eq_zero f1.symm)
  obtain⟨xs,hxs,hxx⟩:∃xs:List D,fs.length=xs.length/\∀(i:Nat) u d,fs[i]?=some u->xs[i]?=some d->RH s.heap u d/\d≠.non/\tyD d=T:=by
   have:∀l:List Value,(∀(i:Nat) u,l[i]?=some u->∃x,RH s.heap u x/\x≠.non/\tyD x=T)->∃xs:List D,l.length=xs.length/\∀(i:Nat) u d,l[i]?=some u->xs[i]?=some d->RH s.heap u d/\d≠.non/\tyD d=T:=fun l=>by
    induction l with
    | nil=>exact fun _=>⟨[],rfl,fun i u d e=>by simp at e⟩
    | cons v l ih =>
     intro hv;obtain⟨xs,x1,x2⟩:=ih fun i u e=>hv (i+1) u (by simpa using e)
     obtain⟨x,hx⟩:=hv 0 v rfl;refine⟨x::xs,by simp[x1],fun i u d e1 e2=>?_⟩
     cases i with
     | zero =>
      have a1:v=u:=by simpa using e1
      have a2:x=d:=by simpa using e2
      subst a1 a2;exact hx
     | succ i=>exact x2 i u d (by simpa using e1) (by simpa using e2)
   exact this fs f3
  refine wpAny_bind (one_ok (T:=T) hne' hxs hxx ?_);have e2:(Option.any (fun x=>x != Value.type "tuple") (some (Value.type T)))=(T != "tuple"):=by
   show(Value.type T != Value.type "tuple")=_;rw[Bool.eq_iff_iff,bne_iff_ne,bne_iff_ne];constructor
   ·exact fun h e=>h (by rw[e])
   ·exact fun h e=>h (by injection e)
  rw[e2];exact wpAny_pure q
end
end VF
namespace VF
open PySem L2 PyProof.Rows TS
section
variable {prog:Program} {w:World} {A:Around} {E:Value->Shared->Prop} {s:Shared}
theorem RH.kept {h h':Heap} (k:∀b o,h.get? b=some o->h'.get? b=some o) {u:Value} {d:D} (r:RH h u d):RH h' u d:=by
 induction r with
 | non=>exact .non
 | int i t=>exact .int i t
 | str x t=>exact .str x t
 | tup t hl _ ih=>obtain⟨o,h1,h2⟩:=t;exact .tup ⟨o,k _ o h1,h2⟩ hl ih
 | lst t hl _ ih=>obtain⟨o,h1,h2⟩:=t;exact .lst ⟨o,k _ o h1,h2⟩ hl ih
noncomputable def dk (ds:List D) (g:Nat):D:=ds.getD g (ds.headD .non)
theorem dk_at {ds:List D} {g:Nat} {d:D} (h:ds[g]?=some d):dk ds g=d:=by
 unfold dk;rw[List.getD_eq_getElem?_getD,h];rfl
theorem dk_mem {ds:List D} (h:ds≠[]) (g:Nat):dk ds g∈ds:=by
 cases e:ds[g]? with
 | some d=>rw[dk_at e];exact List.mem_of_getElem? e
 | none =>
  cases ds with
  | nil=>exact absurd rfl h
  | cons x xs =>
   unfold dk;rw[List.getD_eq_getElem?_getD,e];simp
noncomputable def cD (ds:List D) (g h:Nat):Bool:=ltN 40 (dk ds g) (dk ds h)
theorem tyD_sc {n:Nat} {d e:D} (h:Cp n d e) (ht:tyD d≠"tuple"):(∃i j,d=.int i/\e=.int j)∨∃x y,d=.str x/\e=.str y:=by
 cases n with
 | zero=>exact h.elim
 | succ n =>
  cases d with
  | int i =>
   cases e with
   | int j=>exact .inl ⟨i,j,rfl,rfl⟩
   | _=>exact h.elim
  | str x =>
   cases e with
   | str y=>exact .inr ⟨x,y,rfl,rfl⟩
   | _=>exact h.elim
  | tup xs=>exact absurd rfl ht
  | _=>cases e<;>exact h.elim
theorem cm_data {us vs:List Value} {ds:List D} {κ:SortKind} (hl:us.length=ds.length) (r:∀(i:Nat) u d,us[i]?=some u->ds[i]?=some d->RH s.heap u d) (pl:∀d∈ds,Pl 40 d) (ca:CA 40 ds) (hk:Kd ds κ) (hu:A.units+40<cLine) :
  Cm prog w A s κ (fun g=>(us.getD g .none,vs.getD g .none)) us.length (cD ds):=by
 refine⟨fun E Q g h hg hh q=>?_,fun g=>ltN_irr _ _,fun g h i h1 h2=>?_,fun g h i h1=>?_⟩
 ·have eg:us[g]?=some us[g]:=List.getElem?_eq_getElem hg;have eh:us[h]?=some us[h]:=List.getElem?_eq_getElem hh;have dg:ds[g]?=some ds[g]:=List.getElem?_eq_getElem (by omega)
  have dh:ds[h]?=some ds[h]:=List.getElem?_eq_getElem (by omega)
  have q':Q (ltN 40 ds[g] ds[h]) s:=by unfold cD at q;rw[dk_at dg,dk_at dh]at q;exact q
  have rg:=r g _ _ eg dg;have rh:=r h _ _ eh dh;have mg:=List.mem_of_getElem? dg;have mh:=List.mem_of_getElem? dh;have cp:=ca _ mg _ mh;show wpAny (model prog w) A (keyLt' κ (us.getD g .none) (us.getD h .none)) Q E s;rw[List.getD_eq_getElem?_getD,List.getD_eq_getElem?_getD,eg,eh];show wpAny (model prog w) A (keyLt' κ us[g] us[h]) Q E s;generalize us[g]=ug at rg;generalize us[h]=uh at rh;generalize ds[g]=a at *;generalize ds[h]=b at *;cases hk with
  | @sc T hT hd =>
   rw[keyLt'_oneType];rcases tyD_sc cp (by rw[(hd a mg).2];exact hT) with⟨i,j,rfl,rfl⟩|⟨x,y,rfl,rfl⟩
   ·cases rg;cases rh;exact one_int true prog w E Q q'
   ·cases rg;cases rh;exact one_str true prog w E Q q'
  | @tp T hd =>
   obtain⟨x,xs,rfl,nx,tx⟩:=hd a mg;obtain⟨y,ys,rfl,ny,ty⟩:=hd b mh;refine key_data (n:=39) (pl _ mg) (pl _ mh) cp rg rh (by omega) ⟨_,rfl⟩ (fun hb=>?_) q'
   have hT:T≠"tuple":=by rwa [bne_iff_ne]at hb
   rcases tyD_sc (cp 0 x y rfl rfl) (by rw[tx];exact hT) with⟨i,j,rfl,rfl⟩|⟨x,y,rfl,rfl⟩
   ·exact .inl ⟨trivial,trivial⟩
   ·exact .inr ⟨trivial,trivial⟩
 ·by_cases hne:ds=[]
  ·subst hne;have:cD [] g h=false:=ltN_irr 40 .non;rw[this]at h1;cases h1
  ·exact(ltN_or 40).tra (ca _ (dk_mem hne g) _ (dk_mem hne h)) (ca _ (dk_mem hne h) _ (dk_mem hne i)) (ca _ (dk_mem hne g) _ (dk_mem hne i)) h1 h2
 ·by_cases hne:ds=[]
  ·subst hne;have:cD [] g i=false:=ltN_irr 40 .non;rw[this]at h1;cases h1
  ·exact ca.neg (dk_mem hne g) (dk_mem hne h) (dk_mem hne i) h1
noncomputable def atTags (vs:List Value) (γ:Array Nat):Array Value:=γ.map fun g=>vs.getD g .none
theorem sort_data {a : Addr} {vs : List Value} {n : Nat} {ds : List D} {κ : SortKind} {P : Fin → Shared → Prop} (ho : s.heap.get? a = some (seqObj "list" vs.toArray n)) (hz : vs.length ≤ sizeLine)
    (hl : vs.length = ds.length) (r : ∀ (i : Nat) u d, vs[i]? = some u → ds[i]? = some d → RH (((s.heap.update a (Obj.mapSeq fun _ => #[])).push (seqObj "tuple" vs.toArray 0)).push (seqObj "list" #[] 0)) u d)
    (pl : ∀ d ∈ ds, Pl 40 d) (ca : CA 40 ds) (hk : Kd ds κ) (hu : A.units + 40 < cLine)
    (fin : ∀ γ : Array Nat, γ.Perm (Array.range vs.length) → Sg (cD ds) γ 0 vs.length → P (.done (.ret .none)) { s with heap := sortedHeap s.heap a vs (atTags vs γ) }) :
    wpAny (model prog w) A (Builtin.«list.sort» ⟨[.ref a], []⟩) P E s := by
  rw [list_sort_plain];have small := Heap.lt_size ho;refine wpAny_bind (listItems_at ho rfl (wpAny_bind (listUpdate_at ho rfl ?_)));obtain ⟨ep, hE⟩ : ∃ ep, (s.heap.update a (Obj.mapSeq fun _ => #[])).get? a = some (seqObj "list" #[] ep) := ⟨_, get?_update_seq ho (fun _ => #[])⟩;refine wpAny_bind (seqEpoch_at hE rfl (wpAny_bind (wpAny_newTuple (wpAny_bind (wpAny_newList (wpAny_holding ?_))))));have hE2 : (((s.heap.update a (Obj.mapSeq fun _ => #[])).push (seqObj "tuple" vs.toArray 0)).push (seqObj "list" #[] 0)).get? a = some (seqObj "list" #[] ep) :=
    Heap.get?_push_of_some _ (Heap.get?_push_of_some _ hE)
  generalize hH : ((s.heap.update a (Obj.mapSeq fun _ => #[])).push (seqObj "tuple" vs.toArray 0)).push (seqObj "list" #[] 0) = h6 at r hE2;show wpAny (model prog w) A _ P E { s with heap := h6 };dsimp only;have hsz : vs.toArray.size = vs.length := by simp
  have zs : ∀ γ : Array Nat, γ.Perm (Array.range vs.length) → (atTags vs γ).size ≤ sizeLine + 1 := fun γ p => by
    unfold atTags;rw [Array.size_map, p.size_eq, Array.size_range]; omega
  have done : ∀ γ : Array Nat, γ.Perm (Array.range vs.length) → Sg (cD ds) γ 0 vs.length → P (.done (.ret .none)) { s with heap := h6.update a (Obj.mapSeq fun _ => atTags vs γ) } := fun γ p g => by
    have := fin γ p g;unfold sortedHeap at this;rw [← hH]; exact this
  have e0 : vs.toArray.zip vs.toArray = (Array.range vs.length).map fun g => (vs.getD g .none, vs.getD g .none) := by
    apply Array.ext_getElem?
    intro i;rw [Array.getElem?_map, Array.getElem?_range];by_cases hi : i < vs.length
    · rw [if_pos hi]; simp [hi]
    · rw [if_neg hi]; simp [hi]
  by_cases few : vs.toArray.size < 2
  · rw [if_pos few, if_pos few]
    refine wpAny_bind (wpAny_pure ?_);rw [StateT.run_pure];refine wpAny_bind (wpAny_pure ?_);dsimp only;have em : (vs.toArray.zip vs.toArray).map (fun x => x.2) = atTags vs (Array.range vs.length) := by
      rw [e0, Array.map_map]; rfl
    refine wpAny_bind (seqEpoch_at hE2 rfl (wpAny_bind (listUpdate_at hE2 rfl ?_ (hsz2 := ?_))))
    · simp only [bne_self_eq_false, Bool.false_eq_true, if_false]
      refine wpAny_pure ?_;rw [em];exact done _ (Array.Perm.refl _) fun i j g h z1 z2 z3 => by omega
    · rw [em]; exact zs _ (Array.Perm.refl _)
  · rw [if_neg few, if_neg few]
    have hne : vs ≠ [] := fun z => few (by rw [z]; decide)
    refine wpAny_bind (kk_ok (s := { s with heap := h6 }) hne hl r hk ?_);have C : Cm prog w A { s with heap := h6 } κ (fun g => (vs.getD g .none, vs.getD g .none)) vs.length (cD ds) := cm_data (s := { s with heap := h6 }) hl r pl ca hk hu
    refine wpAny_bind (wpAny_mono (srun_ok (st := SortSt.mk' κ (vs.toArray.zip vs.toArray) #[] 7 none) C (γ := Array.range vs.length) ⟨e0, rfl, rfl, Array.Perm.refl _⟩ rfl (fun i _ z => by rw [Array.getElem?_range, if_pos z])
      (Q := fun _ st' => ∃ γ, Rp κ (fun g => (vs.getD g .none, vs.getD g .none)) vs.length st' γ ∧ Sg (cD ds) γ 0 vs.length) fun st' γ' R g => ⟨γ', R, g⟩) ?_ fun _ _ e => e)
    rintro ⟨⟨⟩, st'⟩ s' ⟨rfl, γ, R, g⟩;dsimp only;have em : (arrOf st').map (fun x => x.2) = atTags vs γ := by
      rw [R.arr, Array.map_map]; rfl
    refine wpAny_bind (seqEpoch_at hE2 rfl (wpAny_bind (listUpdate_at hE2 rfl ?_ (hsz2 := ?_))))
    · rw [show failedOf st' = none from R.fine]
      simp only [bne_self_eq_false, Bool.false_eq_true, if_false];refine wpAny_pure ?_;show P (.done (.ret .none)) { s with heap := h6.update a (Obj.mapSeq fun _ => (arrOf st').map (fun x => x.2)) };rw [em];exact done γ R.perm g
    · show ((arrOf st').map (fun x => x.2)).size ≤ sizeLine + 1
      rw [em]; exact zs γ R.perm
end
end VF
namespace VF
open PySem L2 PyProof.Rows TS
section
variable {prog:Program} {w:World} {A:Around} {E:Value->Shared->Prop} {s:Shared}
theorem collect_seq {l:Addr} {vs:List Value} {Q:List Value->Shared->Prop} (hl:s.heap.IsList l vs.toArray∨s.heap.IsTuple l vs.toArray) (hz:vs.length<=sizeLine)
  (q:Q vs { s with heap:=(s.heap.push (seqObj "list" #[] 0)).update s.heap.objs.size (Obj.mapSeq (·++vs.toArray)) }):wpAny (model prog w) A (collect (.ref l)) Q E s:=by
 rcases hl with hl|hl
 ·exact collect_list hl q hz
 obtain⟨o,ho,hc,m,hd⟩:=id hl;have kept:=Heap.get?_push_of_some (seqObj "list" #[] 0) ho;have new:(s.heap.push (seqObj "list" #[] 0)).get? s.heap.objs.size=some (seqObj "list" #[] 0):=Heap.get?_push_size _ rfl;unfold collect;refine wpAny_bind (wpAny_runValue (codeAny_builtin entry_proto_collect' ?_));refine wpAny_bind (wpAny_newList (wpAny_pure ⟨Code.quiet_builtin _ (by decide +kernel),codeAny_builtin entry_list_iadd' ?_⟩))
 show wpAny _ _ (Builtin.List.listExtendWith (.ref s.heap.objs.size) (.ref l) (.ref s.heap.objs.size)) _ _ { s with heap:=s.heap.push (seqObj "list" #[] 0) };unfold Builtin.List.listExtendWith;refine wpAny_bind (wpAny_typeOf (T:="tuple") ⟨o,kept,hc⟩ ?_);rw[if_pos (by rw[show(Value.type "tuple" == Value.type "tuple")=true from rfl,Bool.or_true])]
 refine wpAny_bind (listItems_at kept hd (wpAny_bind (listItems_at new rfl ?_)));rw[if_neg (by simp)]
 have room:((#[]:Array Value)++vs.toArray).size<=sizeLine+1:=by
  rw[Array.size_append,List.size_toArray];simp;omega
 refine wpAny_bind (listUpdate_at new rfl ?_ (Nat.zero_le _) room);refine wpAny_pure ?_;have at':=get?_update_seq new (fun x=>x++vs.toArray);refine wpAny_bind (wpAny_load at' ?_);show wpAny _ _ (pure ((#[]:Array Value)++vs.toArray).toList) Q E _;have e:((#[]:Array Value)++vs.toArray).toList=vs:=by simp
 rw[e];exact wpAny_pure q
theorem sorted_data {l:Addr} {vs:List Value} {ds:List D} {κ:SortKind} {Q:Value->Shared->Prop} (hl:s.heap.IsList l vs.toArray∨s.heap.IsTuple l vs.toArray) (hz:vs.length<=sizeLine)
  (hn:vs.length=ds.length) (r:∀(i:Nat) u d,vs[i]?=some u->ds[i]?=some d->RH s.heap u d) (pl:∀d∈ds,Pl 40 d) (ca:CA 40 ds) (hk:Kd ds κ) (hu:A.units+64<cLine)
  (fin:∀γ:Array Nat,γ.Perm (Array.range vs.length)->Sg (cD ds) γ 0 vs.length->Q (.ref (s.heap.objs.size+1)) { s with heap:=sortedAll s.heap vs (atTags vs γ) }) :
  wpAny (model prog w) A (call (.builtin "sorted") [.ref l]) Q E s:=by
 refine Calls.call_function_entry kind_sorted plain_sorted entry_sorted (args_sorted1 _) ?_;refine wpAny_bind (m:=checkCount "sorted" 1 1 _) (wpAny_pure (wpAny_bind (collect_seq hl hz (wpAny_bind (wpAny_newList ?_)))));generalize hg:(s.heap.push (seqObj "list" #[] 0)).update s.heap.objs.size (Obj.mapSeq (·++vs.toArray))=h1;have z1:h1.objs.size=s.heap.objs.size+1:=by rw[← hg,Heap.size_update,size_push']
 have old:∀b o,s.heap.get? b=some o->h1.get? b=some o:=fun b o e=>by
  rw[← hg];exact(Heap.get?_update_ne _ _ _ _ (Nat.ne_of_lt (Heap.lt_size e))).trans (Heap.get?_push_of_some _ e)
 have mine:(h1.push (seqObj "list" vs.toArray 0)).get? (s.heap.objs.size+1)=some (seqObj "list" vs.toArray 0):=by rw[← z1];exact Heap.get?_push_size _ rfl
 show wpAny _ _ _ _ _ { s with heap:=h1.push (seqObj "list" vs.toArray 0) };rw[z1];refine wpAny_bind (wpAny_holding (wpAny_call_entry slot_list_sort ⟨_,mine,rfl⟩ entry_list_sort ?_ (args_list_sort _)));refine sort_data (s:={ s with heap:=h1.push (seqObj "list" vs.toArray 0) }) mine hz hn (fun i u d e1 e2=>(r i u d e1 e2).kept fun b o e=>?_) pl ca hk (by show A.units+1+1+40<cLine;omega) fun γ p g=>?_
 ·have hb:=Heap.lt_size e;refine Heap.get?_push_of_some _ (Heap.get?_push_of_some _ ?_);have hne:b≠s.heap.objs.size+1:=Nat.ne_of_lt (Nat.lt_succ_of_lt hb);exact(Heap.get?_update_ne _ _ _ _ hne).trans (Heap.get?_push_of_some _ (old b o e))
 ·refine⟨_,rfl,wpAny_pure ⟨_,rfl,?_⟩⟩;have:=fin γ p g;unfold sortedAll at this;rw[hg]at this;exact this
end
theorem srt_of {ds:List D} {γ:Array Nat} (ca:CA 40 ds) (p:γ.Perm (Array.range ds.length)) (g:Sg (cD ds) γ 0 ds.length):(γ.toList.map (dk ds))=sortD 40 ds:=by
 have hsz:γ.size=ds.length:=by rw[p.size_eq,Array.size_range]
 refine sortD_uniq ca ?_ ?_
 ·have p1:(γ.toList.map (dk ds)).Perm ((List.range ds.length).map (dk ds)):=by
   have:=Array.perm_iff_toList_perm.mp p;rw[Array.toList_range]at this;exact this.map _
  have e:(List.range ds.length).map (dk ds)=ds:=by
   refine List.ext_getElem (by simp) fun i h1 h2=>?_
   rw[List.getElem_map,List.getElem_range,dk_at (List.getElem?_eq_getElem h2)]
  rwa [e]at p1
 ·unfold Srt;rw[List.pairwise_map,List.pairwise_iff_getElem];intro i j hi hj hij;rw[Array.length_toList]at hi hj;have b:=g i j γ.toList[i] γ.toList[j] (Nat.zero_le _) hij (by omega) (by rw[← Array.getElem?_toList];exact List.getElem?_eq_getElem _) (by rw[← Array.getElem?_toList];exact List.getElem?_eq_getElem _)
  rcases b with b|b
  ·exact ltN_asy _ _ _ b
  ·exact b.1
section
variable {X:Cx} {K:PySem.W.Frag} {Y:AS} {H:Hp}
noncomputable def rSortD (K:PySem.W.Frag):List V->Hp->VK->Prop:=fun xs H Q=>∃(Y:AS) (v:V) (d:D) (ds:List D) (κ:SortKind),xs=[v]/\BA K Y H v d/\d.seq=some ds/\(∀x∈ds,Pl 40 x)/\CA 40 ds/\Kd ds κ /\
 ∀(p:Addr) (vs:List V),H p=none->El K Y H vs (sortD 40 ds)->Q (.ref p) (upd H p (.lst vs))
theorem call_sortD {n:Nat} (h:X.K=K) (hr:Room n X.A):CallR X (.builtin "sorted") (rSortD K):=by
 intro pins s σ H xs us Q I rv hh;obtain⟨Y,v,d,ds,κ,rfl,ba,hs,pl,ca,hk,q⟩:=hh;obtain⟨u,rfl,ru⟩:=vals1 rv;obtain⟨a,vs,rfl,sq,el⟩:=seq_ba ba hs;cases ru;have main:∀its:List Value,Vals vs its->(s.heap.IsList a its.toArray∨s.heap.IsTuple a its.toArray)->vs.length<=sizeLine->wpAny (model X.prog X.w) X.A (call (.builtin "sorted") [.ref a]) (EP X pins σ Q) X.xe s:=fun its r t hz=>by
  have hn:its.length=ds.length:=r.length.symm.trans el.1;have rr:∀(i:Nat) u d,its[i]?=some u->ds[i]?=some d->RH s.heap u d:=fun i u d e1 e2=>by
   obtain⟨v,e3,rv⟩:=vals_at r i u e1;exact(el.2 i v d e3 e2).rh (pl d (List.mem_of_getElem? e2)) I h rv
  have hz':its.length<=sizeLine:=by rw[← r.length];exact hz
  refine sorted_data t hz' hn rr pl ca hk hr.units fun γ p g=>?_;rw[hn]at p g;obtain⟨e,he⟩:=sortedAll_at s.heap its (atTags its γ);have hγ:∀g∈γ.toList,g<ds.length:=fun g hg=>by
   have:=(Array.perm_iff_toList_perm.mp p).mem_iff.mp hg;rw[Array.toList_range]at this;exact List.mem_range.mp this
  have eo:=srt_of ca p g
  let ws:List V:=γ.toList.map fun g=>vs.getD g .non
  have vw:Vals ws (atTags its γ).toList:=by
   have e2:(atTags its γ).toList=γ.toList.map fun g=>its.getD g .none:=by unfold atTags;simp
   rw[e2];have:∀l:List Nat,(∀g∈l,g<ds.length)->Vals (l.map fun g=>vs.getD g .non) (l.map fun g=>its.getD g .none):=fun l=>by
    induction l with
    | nil=>exact fun _=>.nil
    | cons g l ih =>
     intro hl;have hg:g<ds.length:=hl g List.mem_cons_self;have a1:its[g]?=some its[g]:=List.getElem?_eq_getElem (by omega)
     obtain⟨v,e3,rv⟩:=vals_at r g _ a1;refine .cons ?_ (ih fun x hx=>hl x (List.mem_cons_of_mem _ hx));show RelV (vs.getD g .non) (its.getD g .none);rw[List.getD_eq_getElem?_getD,List.getD_eq_getElem?_getD,e3,a1];exact rv
   exact this _ hγ
  have elw:El K Y H ws (sortD 40 ds):=by
   rw[← eo];refine⟨by simp[ws],fun i v d h1 h2=>?_⟩
   rw[List.getElem?_map]at h1 h2;obtain⟨g1,k1,k2⟩:=Option.map_eq_some_iff.mp h1;obtain⟨g2,k3,k4⟩:=Option.map_eq_some_iff.mp h2;rw[k1]at k3;cases k3;have hg:g1<ds.length:=hγ g1 (List.mem_of_getElem? k1);have d1:ds[g1]?=some ds[g1]:=List.getElem?_eq_getElem hg;obtain⟨v',e3,da⟩:=el.at d1;rw[dk_at d1]at k4;rw[List.getD_eq_getElem?_getD,e3]at k2;subst k4;have:v'=v:=k2;subst this;exact da
  have hlw:ws.length=ds.length:=by
   show(γ.toList.map _).length=_;rw[List.length_map,Array.length_toList,p.size_eq,Array.size_range]
  refine⟨.ref (s.heap.objs.size+1),upd H (s.heap.objs.size+1) (.lst ws),I.laid (t':=s.toks) (fun b o z=>sortedAll_old z) (Nat.le_succ _) ⟨by omega,(atTags its γ).toList,e,vw,by simpa using he⟩,rfl,q _ ws (I.hok.fresh (Nat.le_succ _)) elw⟩
 rcases sq with sq|sq
 ·obtain⟨its,r,t,hz⟩:=I.list (h ▸ sq);exact main its r (.inl t.isList) hz
 ·obtain⟨its,r,t,hz⟩:=I.tuple (h ▸ sq);exact main its r (.inr t) hz
open Classical in
noncomputable def bSortD:List D->Option Rz
 | [d]=>match d.seq with
  | some ds=>if (∀x∈ds,Pl 40 x)/\CA 40 ds/\∃κ,Kd ds κ then some (.lst (sortD 40 ds),true) else none
  | none=>none
 | _=>none
theorem rc_sortD:RdCB K (rSortD K) bSortD:=by
 intro Y H xs ds z Q lv bs e q;cases bs with
 | nil=>cases e
 | @cons v vs d ds b1 bs =>
  cases bs with
  | cons _ _=>cases e
  | nil =>
   unfold bSortD at e;dsimp only at e;split at e
   ·rename_i xs hs
    by_cases c:(∀x∈xs,Pl 40 x)/\CA 40 xs/\∃κ,Kd xs κ
    ·rw[if_pos c]at e;cases e;obtain⟨c1,c2,κ,c3⟩:=c;exact⟨Y,v,d,xs,κ,rfl,b1,hs,c1,c2,c3,fun p ws hp el=>q _ _ (same_upd hp _) (res_new el hp)⟩
    ·rw[if_neg c]at e;cases e
   ·cases e
end
end VF
namespace VF22
open PySem PySem.Spec PyProof.Rows L2 VF
noncomputable def keyD:D->Option Key
 | .int i=>some (.inl i)
 | .str x=>some (.inr x)
 | _=>none
noncomputable def keysD:List D->Option (List Key)
 | []=>some []
 | d::r=>(keyD d).bind fun k=>(keysD r).bind fun ks=>some (k::ks)
section
variable {κ:Type} [DecidableEq κ]
noncomputable def lookG (kvs:List (κ×D)) (k:κ):Option D:=(kvs.find? fun kv=>decide (kv.1=k)).map (·.2)
noncomputable def putG (kvs:List (κ×D)) (k:κ) (d:D):List (κ×D):=if (kvs.any fun kv=>decide (kv.1=k))=true then kvs.map (fun kv=>if kv.1=k then(kv.1,d) else kv) else kvs++[(k,d)]
noncomputable def Go (R:V->D->Prop) (kvs:List (κ×V)) (ds:List (κ×D)):Prop:=kvs.map (·.1)=ds.map (·.1)/\∀(i:Nat) v d,kvs[i]?=some v->ds[i]?=some d->R v.2 d.2
theorem Go.nil {R:V->D->Prop}:Go R ([]:List (κ×V)) []:=⟨rfl,fun i v d h _=>by simp at h⟩
theorem Go.cons {R:V->D->Prop} {p:κ×V} {q:κ×D} {kvs:List (κ×V)} {ds:List (κ×D)} (h1:p.1=q.1) (h2:R p.2 q.2) (t:Go R kvs ds):Go R (p::kvs) (q::ds) :=
 ⟨by rw[List.map_cons,List.map_cons,h1,t.1],fun i v d a b=>by
  cases i with
  | zero=>cases a;cases b;exact h2
  | succ i=>exact t.2 i v d a b⟩
theorem Go.un {R:V->D->Prop} {p:κ×V} {q:κ×D} {kvs:List (κ×V)} {ds:List (κ×D)} (h:Go R (p::kvs) (q::ds)):p.1=q.1/\R p.2 q.2/\Go R kvs ds:=by
 obtain⟨h1,h2⟩:=h;rw[List.map_cons,List.map_cons]at h1;injection h1 with a b;exact⟨a,h2 0 p q rfl rfl,b,fun i v d x y=>h2 (i+1) v d x y⟩
theorem Go.look {R:V->D->Prop}:∀{kvs:List (κ×V)} {ds:List (κ×D)} (k:κ),Go R kvs ds->(valV kvs k=none/\lookG ds k=none)∨∃v d,valV kvs k=some v/\lookG ds k=some d/\R v d
 | [],[],_,_=>.inl ⟨rfl,rfl⟩
 | [],_::_,_,h=>by have:=h.1;simp at this
 | _::_,[],_,h=>by have:=h.1;simp at this
 | p::ps,q::qs,k,h=>by
  obtain⟨h1,h2,h3⟩:=h.un;by_cases e:p.1=k
  ·refine .inr ⟨p.2,q.2,valV_pos e,?_,h2⟩;simp[lookG,List.find?_cons,h1.symm.trans e]
  ·have e':¬ q.1=k:=fun z=>e (h1.trans z);rw[valV_neg e,show lookG (q::qs) k=lookG qs k by simp[lookG,List.find?_cons,e']]
   exact h3.look k
theorem Go.any {R:V->D->Prop} {kvs:List (κ×V)} {ds:List (κ×D)} (h:Go R kvs ds) (k:κ):(kvs.any fun kv=>decide (kv.1=k))=ds.any fun kv=>decide (kv.1=k):=by
 have a:∀l:List (κ×V),(l.any fun kv=>decide (kv.1=k))=(l.map (·.1)).any fun x=>decide (x=k):=fun l=>by rw[List.any_map];rfl
 rw[a,h.1,List.any_map];rfl
theorem Go.repl {R:V->D->Prop} (k:κ) {y:V} {d:D} (r:R y d):∀{kvs:List (κ×V)} {ds:List (κ×D)},Go R kvs ds->Go R (kvs.map fun kv=>if kv.1=k then(kv.1,y) else kv) (ds.map fun kv=>if kv.1=k then(kv.1,d) else kv)
 | [],[],_=>Go.nil
 | [],_::_,h=>by have:=h.1;simp at this
 | _::_,[],h=>by have:=h.1;simp at this
 | p::ps,q::qs,h=>by
  obtain⟨h1,h2,h3⟩:=h.un;rw[List.map_cons,List.map_cons];by_cases e:p.1=k
  ·rw[if_pos e,if_pos (h1.symm.trans e)];exact Go.cons h1 r (h3.repl k r)
  ·rw[if_neg e,if_neg fun z=>e (h1.trans z)];exact Go.cons h1 h2 (h3.repl k r)
theorem Go.snoc {R:V->D->Prop} (k:κ) {y:V} {d:D} (r:R y d):∀{kvs:List (κ×V)} {ds:List (κ×D)},Go R kvs ds->Go R (kvs++[(k,y)]) (ds++[(k,d)])
 | [],[],_=>Go.cons rfl r Go.nil
 | [],_::_,h=>by have:=h.1;simp at this
 | _::_,[],h=>by have:=h.1;simp at this
 | p::ps,q::qs,h=>by
  obtain⟨h1,h2,h3⟩:=h.un;exact Go.cons h1 h2 (h3.snoc k r)
theorem Go.put {R:V->D->Prop} (k:κ) {y:V} {d:D} {kvs:List (κ×V)} {ds:List (κ×D)} (h:Go R kvs ds) (r:R y d):Go R (putK kvs k y) (putG ds k d):=by
 unfold putK putG;rw[h.any k];split
 ·exact h.repl k r
 ·exact h.snoc k r
theorem Go.len {R:V->D->Prop} {kvs:List (κ×V)} {ds:List (κ×D)} (h:Go R kvs ds):kvs.length=ds.length:=by
 have:=congrArg List.length h.1;rwa [List.length_map,List.length_map]at this
theorem Go.map {R S:V->D->Prop} {kvs:List (κ×V)} {ds:List (κ×D)} (h:Go R kvs ds) (f:∀v d,R v d->S v d):Go S kvs ds:=⟨h.1,fun i v d a b=>f _ _ (h.2 i v d a b)⟩
end
section
variable {K:PySem.W.Frag} {Y:AS} {H:Hp}
theorem key_v {v:V} {d:D} {k:Key} (h:DA K Y H v d) (e:keyD d=some k):v=kV k:=by
 cases d with
 | int i=>cases e;cases h;rfl
 | str x=>cases e;cases h;rfl
 | _=>cases e
theorem key_b {v:V} {d:D} {k:Key} (h:BA K Y H v d) (e:keyD d=some k):v=kV k:=by
 cases d with
 | int i=>cases e;exact h
 | str x=>cases e;exact h
 | _=>cases e
theorem keys_v:∀{ds:List D} {vs:List V} {ks:List Key},El K Y H vs ds->keysD ds=some ks->vs=ks.map kV
 | [],vs,ks,h,e=>by
  cases e;obtain rfl:=h.unnil;rfl
 | d::r,vs,ks,h,e=>by
  obtain⟨k,e1,e⟩:=Option.bind_eq_some_iff.mp e;obtain⟨ks',e2,e⟩:=Option.bind_eq_some_iff.mp e;cases e;obtain⟨v,vr,rfl,da,el⟩:=h.uncons;rw[key_v da e1,keys_v el e2];rfl
noncomputable def atD:D->D->Option (Option D)
 | .dt kvs,.tup ds=>(keysD ds).bind fun ks=>some (lookG kvs ks)
 | .dk kvs,d=>(keyD d).bind fun k=>some (lookG kvs k)
 | _,_=>none
theorem at_b {x y:V} {d1 d2:D} {o:Option D} (b1:BA K Y H x d1) (b2:BA K Y H y d2) (e:atD d1 d2=some o):∃(a:Addr) (r:Option V),x=.ref a/\DGet H a y r/\((r=none/\o=none)∨∃v d,r=some v/\o=some d/\DA K Y H v d):=by
 cases d1 with
 | dt kvs =>
  cases d2 with
  | tup ds =>
   obtain⟨ks,e1,e⟩:=Option.bind_eq_some_iff.mp e;cases e;obtain⟨a,ep,kv,rfl,_,h1,h2,h3⟩:=b1;obtain⟨b,vs,rfl,t,el⟩:=b2;have:=keys_v el e1;subst this;exact⟨a,_,rfl,DGet.t h1 t.1,Go.look ks ⟨h2,h3⟩⟩
  | _=>cases e
 | dk kvs =>
  obtain⟨k,e1,e⟩:=Option.bind_eq_some_iff.mp e;cases e;obtain⟨a,kv,rfl,h1,h2,h3⟩:=b1;have:=key_b b2 e1;subst this;exact⟨a,_,rfl,DGet.k h1,Go.look k ⟨h2,h3⟩⟩
 | _=>cases e
noncomputable def rDG:R2:=fun x y H Q=>∃a v,x=.ref a/\DGet H a y (some v)/\Q v H
noncomputable def bDGet:D->D->Option Rz:=fun d1 d2=>(atD d1 d2).bind fun o=>o.bind fun d=>some (d,false)
theorem ro_dget:RdOp K rDG bDGet:=by
 intro Y H x y d1 d2 z Q lv b1 b2 e q;obtain⟨o,e1,e⟩:=Option.bind_eq_some_iff.mp e;obtain⟨d,rfl,e⟩:=Option.bind_eq_some_iff.mp e;cases e;obtain⟨a,r,rfl,g,h|⟨v,d',rfl,h2,da⟩⟩:=at_b b1 b2 e1
 ·cases h.2
 ·cases h2;exact⟨a,v,rfl,g,q v H (Same.refl H) da⟩
noncomputable def rDIn (neg:Bool):R2:=fun y x H Q=>∃(a:Addr) (o:Option V),x=.ref a/\DGet H a y o/\Q (.bl (if neg then !o.isSome else o.isSome)) H
noncomputable def bDIn (neg:Bool):D->D->Option Rz:=fun d2 d1=>(atD d1 d2).bind fun o=>some (.bl (if neg then !o.isSome else o.isSome),false)
theorem ro_din (neg:Bool):RdOp K (rDIn neg) (bDIn neg):=by
 intro Y H y x d2 d1 z Q lv b2 b1 e q;obtain⟨o,e1,e⟩:=Option.bind_eq_some_iff.mp e;cases e;obtain⟨a,r,rfl,g,h⟩:=at_b b1 b2 e1;refine⟨a,r,rfl,g,?_⟩;have:r.isSome=o.isSome:=by
  rcases h with⟨rfl,rfl⟩|⟨v,d,rfl,rfl,_⟩<;>rfl
 rw[this];exact q _ H (Same.refl H) (.bl _)
noncomputable def rSetD:TSet:=fun x k v H Q=>∃a,x=.ref a/\DPut H a k v Q
noncomputable def bSetD:D->D->D->Option D
 | .dt kvs,.tup ds,v=>(keysD ds).bind fun ks=>if kvs.length<100000 then some (.dt (putG kvs ks v)) else none
 | .dk kvs,d,v=>(keyD d).bind fun k=>if kvs.length<100000 then some (.dk (putG kvs k v)) else none
 | _,_,_=>none
theorem rset_dict:RdSet K rSetD bSetD:=by
 intro Y H p x k v dk dv x' Q hp ho bk da e q;have lim:(100000:Nat)<=sizeLine:=by rw[sizeLine_eq];decide
 cases x with
 | dt kvs =>
  cases dk with
  | tup ds =>
   obtain⟨ks,e1,e⟩:=Option.bind_eq_some_iff.mp e;by_cases c:kvs.length<100000
   ·rw[if_pos c]at e;cases e;obtain⟨ep,kv,ka,h1,h2,h3⟩:=ho;obtain⟨b,vs,rfl,t,el⟩:=bk;have:=keys_v el e1;subst this;have g:Go (DA K Y H) kv kvs:=⟨h2,h3⟩;refine⟨p,rfl,.inr ⟨ep,kv,ks,b,h1,rfl,t.1,by have:=g.len;omega,fun n=>q _ ?_⟩⟩
    have g':=(g.put ks da).map (S:=DA K Y (upd H p (.dT (n,putA ep.2 kv ks b) (putK kv ks v)))) fun v d h=>h.upd hp;refine⟨(n,putA ep.2 kv ks b),_,KA.go (Y:=Y) (H:=H) (fun c hc=>?_) (fun c o e n=>by rw[upd_ne fun z=>n (by rw[z];exact hp)];exact e) (fun c z=>.inl z),upd_same,g'.1,g'.2⟩
    unfold putA at hc;split at hc
    ·exact ka c hc
    ·rcases List.mem_append.mp hc with hc|hc
     ·exact ka c hc
     ·rw[List.mem_singleton.mp hc];exact⟨t.2,by rw[t.1];simp⟩
   ·rw[if_neg c]at e;cases e
  | _=>cases e
 | dk kvs =>
  obtain⟨kk,e1,e⟩:=Option.bind_eq_some_iff.mp e;by_cases c:kvs.length<100000
  ·rw[if_pos c]at e;cases e;obtain⟨kv,h1,h2,h3⟩:=ho;have:=key_b bk e1;subst this;have g:Go (DA K Y H) kv kvs:=⟨h2,h3⟩;refine⟨p,rfl,.inl ⟨kv,kk,h1,rfl,by have:=g.len;omega,q _ ?_⟩⟩
   have g':=(g.put kk da).map (S:=DA K Y (upd H p (.dK (putK kv kk v)))) fun v d h=>h.upd hp;exact⟨_,upd_same,g'.1,g'.2⟩
  ·rw[if_neg c]at e;cases e
 | _=>cases e
noncomputable def fDNew (d:D):FE:=fun st=>some (.f d,st)
theorem rd_dnewT:RdE K tDNewT (fDNew (.dt [])):=by
 intro st σ H O Z Q E r st' h q;cases h;intro p hp;have hres:RES K (U O Z) H (upd H p (.dT (0,[]) [])) (.ref p) (.dt [],true):=⟨p,rfl,hp,(0,[]),[],(fun _ z=>nomatch z),upd_same,rfl,fun i v d a _=>by simp at a⟩
 obtain⟨E3,rv⟩:=hres.rv E (same_upd hp _);exact q _ _ O (Same.ext (same_upd hp _)) (Kp.refl _) E3 rv fun p' e=>by cases e;exact hp
theorem rd_dnewK:RdE K tDNewK (fDNew (.dk [])):=by
 intro st σ H O Z Q E r st' h q;cases h;intro p hp;have hres:RES K (U O Z) H (upd H p (.dK [])) (.ref p) (.dk [],true):=⟨p,rfl,hp,[],upd_same,rfl,fun i v d a _=>by simp at a⟩
 obtain⟨E3,rv⟩:=hres.rv E (same_upd hp _);exact q _ _ O (Same.ext (same_upd hp _)) (Kp.refl _) E3 rv fun p' e=>by cases e;exact hp
end
section
variable {X:Cx}
theorem pe_dgetV {o i:Expr} {td ty:TE} {pos:Pos} (hu:X.A.units+1<cLine) (ho:PE X o td) (hi:PE X i ty) (hs:NoSl i):PE X (.Subscript o i pos) (tOp rDG td ty):=pe_dget hu ho hi hs
theorem op_din (hu:X.A.units+1<cLine):OpR X (compareOp .In) (rDIn false):=by
 intro pins s σ H y x v u Q I ry rx h;obtain⟨a,o,rfl,g,q⟩:=h;cases rx;exact d_in hu I g ry fun s' I'=>⟨.bl o.isSome,H,I',rfl,q⟩
theorem op_dnotin (hu:X.A.units+1<cLine):OpR X (compareOp .NotIn) (rDIn true):=by
 intro pins s σ H y x v u Q I ry rx h;obtain⟨a,o,rfl,g,q⟩:=h;cases rx;exact d_notIn hu I g ry fun s' I'=>⟨.bl (!o.isSome),H,I',rfl,q⟩
theorem set_dictD (hu:X.A.units+1<cLine):PSet X rSetD:=by
 intro pins s σ H o i v ov iv u Q I ro ri rv h;obtain⟨a,rfl,g⟩:=h;cases ro;exact d_setItem hu I g ri rv fun s' H' I' q=>⟨H',I',q⟩
end
end VF22
namespace VF22
open PySem PySem.Spec PyProof.Rows L2 VF
section
variable {prog:Program} {w:World} {A:Around} {E:Value->Shared->Prop} {s:Shared}
noncomputable def RawD (h:Heap) (d:Addr) (es:Array DictEntry) (ep:Nat):Prop:=∃o,h.get? d=some o/\o.ExactDict/\o.data=.dict es ep
theorem RawD.at {h h':Heap} {d:Addr} {es:Array DictEntry} {ep:Nat} (x:RawD h d es ep) (e:∀o,h.get? d=some o->h'.get? d=some o):RawD h' d es ep:=let ⟨o,ho,r⟩:=x;⟨o,e _ ho,r⟩
theorem RawD.typeIs {d:Addr} {es:Array DictEntry} {ep:Nat} (x:RawD s.heap d es ep):s.TypeIs (.ref d) "dict":=let ⟨o,ho,c,_⟩:=x;⟨o,ho,c.1⟩
theorem iter_raw {d:Addr} {es:Array DictEntry} {ep:Nat} {Q:Value->Shared->Prop} (hd:(d == sysModules)=false) (hm:RawD s.heap d es ep)
  (q:Q (.ref s.heap.objs.size) { s with heap:=s.heap.push { cls:=.type "dict_keyiterator",data:=.fields #[.ref d,.int 0 0,.int es.size 0,.int ep 0] } }) :
  wpAny (model prog w) A (pyIter (.ref d)) Q E s:=by
 have ty:=hm.typeIs;obtain⟨o,ho,hc,dat⟩:=hm;refine wpAny_pyIter_slot ty F.slot_dict_iter (wpAny_call_entry F.slot_dict_iter ty F.entry_dict_iter ?_ (F.args_dict_iter_1 _));unfold Builtin.«dict.__iter__»;refine wpAny_bind ?_;unfold Builtin.Dict.dictSlotNone;refine wpAny_bind (wpAny_notOrdered_dict ty ?_);show wpAny _ _ (pure (Value.ref d)) _ _ s;refine wpAny_pure ?_;show wpAny _ _ (Builtin.Dict.showsAll d >>= _) _ _ s;unfold Builtin.Dict.showsAll;rw[if_neg (by rw[hd];exact Bool.false_ne_true)]
 refine wpAny_bind (wpAny_pure (wpAny_bind (wpAny_dictEntries ho dat (wpAny_bind (wpAny_dictEpoch ho dat ?_)))));refine wpAny_bind (wpAny_newObj_type (wpAny_pure ⟨_,rfl,"dict_keyiterator",_,⟨_,Heap.get?_push_size _ rfl,rfl⟩,F.slot_dict_keyiterator_next.lookup,?_⟩));simpa[rawInt]using q
theorem next_raw {it d:Addr} {i ep:Nat} {es:Array DictEntry} {x:DictEntry} {Q:Option Value->Shared->Prop} (hit:s.heap.IsKeyIter it d i es.size ep) (hm:RawD s.heap d es ep) (hx:es[i]?=some x)
  (q:∀h',h'.IsKeyIter it d (i+1) es.size ep->Heap.SameBut it s.heap h'->Q (some x.key) { s with heap:=h' }):wpAny (model prog w) A (pyNext (.ref it)) Q E s:=by
 obtain⟨o,ho,hc,hd⟩:=id hit;obtain⟨od,hod,hcd,hdd⟩:=hm;unfold pyNext;refine wpAny_bind (wpAny_attempt (wpAny_callSpecial?_slot (name:=Str.ofString "__next__") hit.typeIs F.slot_dict_keyiterator_next (wpAny_call_entry F.slot_dict_keyiterator_next hit.typeIs F.entry_dict_keyiterator_next ?_ (F.args_dict_keyiterator_next_1 _))));refine wpAny_bind (wpAny_pure (wpAny_bind (wpAny_bind ?_)));refine wpAny_bind (wpAny_typeNameOfWhole_keyiter hit.typeIs (wpAny_pure (wpAny_bind (wpAny_fieldsOf ho hd ?_))));have own:Builtin.Dict_items.ownsTuple "dict_keyiterator"=false:=by decide
 simp only[own,Bool.false_eq_true,if_false];show wpAny _ _ (if (Value.ref d == Value.none)=true then _ else _) _ _ s;rw[if_neg (show ¬ ((Value.ref d == Value.none)=true) from Bool.false_ne_true)];refine wpAny_bind (wpAny_pure (wpAny_bind (wpAny_dictEntries hod hdd ?_)));rw[if_neg (by simp)];refine wpAny_bind (wpAny_pure (wpAny_bind (wpAny_dictEpoch hod hdd ?_)))
 rw[if_neg (by simp)];refine wpAny_pure ?_
 have hlt:i<es.size:=(Array.getElem?_eq_some_iff.mp hx).1;have ex:es[i]=x:=(Array.getElem?_eq_some_iff.mp hx).2;simp only[show ¬ ((i:Int)<0) from by omega,if_false,Int.toNat_natCast,hx]
 refine wpAny_bind (wpAny_bind (wpAny_typeNameOfWhole_keyiter hit.typeIs (wpAny_pure (wpAny_bind (wpAny_isOneOf_keyiter hit.typeIs ?_)))));show wpAny _ _ (setField (.ref it) 1 (rawInt ((i:Int)+1)) >>= _) _ _ s;refine wpAny_bind (wpAny_setField ho hd (by simp) ?_)
 have hit':(s.heap.update it (Obj.mapFields (·.setIfInBounds 1 (rawInt ((i:Int)+1))))).IsKeyIter it d (i+1) es.size ep:=⟨_,Heap.get?_update_self _ ho (Obj.isFreed_of_fields (Obj.data_mapFields hd _)),(Obj.cls_mapFields ..).trans hc,by rw[Obj.data_mapFields hd];simp[rawInt]⟩
 refine wpAny_bind (wpAny_holding (wpAny_bind (wpAny_isOneOf_keyiter (s:={ s with heap:=s.heap.update it (Obj.mapFields (·.setIfInBounds 1 (rawInt ((i:Int)+1)))) }) hit'.typeIs ?_)));show wpAny _ _ (pure x.key) _ _ _;exact wpAny_pure (wpAny_pure ⟨_,rfl,wpAny_pure (q _ hit' (Heap.SameBut.update ..))⟩)
theorem end_raw {it d:Addr} {i ep:Nat} {es:Array DictEntry} {Q:Option Value->Shared->Prop} (hh:A.handled=none) (hit:s.heap.IsKeyIter it d i es.size ep) (hm:RawD s.heap d es ep) (hx:es.size<=i)
  (q:∀h',Heap.ExtBut it s.heap h'->Q none { s with heap:=h' }):wpAny (model prog w) A (pyNext (.ref it)) Q E s:=by
 obtain⟨o,ho,hc,hd⟩:=id hit;obtain⟨od,hod,hcd,hdd⟩:=hm;unfold pyNext;refine wpAny_bind (wpAny_attempt (wpAny_callSpecial?_slot (name:=Str.ofString "__next__") hit.typeIs F.slot_dict_keyiterator_next (wpAny_call_entry F.slot_dict_keyiterator_next hit.typeIs F.entry_dict_keyiterator_next ?_ (F.args_dict_keyiterator_next_1 _))));refine wpAny_bind (wpAny_pure (wpAny_bind (wpAny_bind ?_)));refine wpAny_bind (wpAny_typeNameOfWhole_keyiter hit.typeIs (wpAny_pure (wpAny_bind (wpAny_fieldsOf ho hd ?_))));have own:Builtin.Dict_items.ownsTuple "dict_keyiterator"=false:=by decide
 simp only[own,Bool.false_eq_true,if_false];show wpAny _ _ (if (Value.ref d == Value.none)=true then _ else _) _ _ s;rw[if_neg (show ¬ ((Value.ref d == Value.none)=true) from Bool.false_ne_true)];refine wpAny_bind (wpAny_pure (wpAny_bind (wpAny_dictEntries hod hdd ?_)));rw[if_neg (by simp)];refine wpAny_bind (wpAny_pure (wpAny_bind (wpAny_dictEpoch hod hdd ?_)))
 rw[if_neg (by simp)];refine wpAny_pure ?_
 simp only[show ¬ ((i:Int)<0) from by omega,if_false,Int.toNat_natCast,Array.getElem?_eq_none hx]
 refine wpAny_bind (wpAny_bind (wpAny_typeNameOfWhole_keyiter hit.typeIs (wpAny_pure ?_)));show wpAny _ _ (setField (.ref it) 0 .none >>= _) _ _ s;refine wpAny_bind (wpAny_setField ho hd (by simp) ?_)
 show wpAny _ _ (newExc (.type "StopIteration") [] >>= _) _ _ _;refine wpAny_bind ?_;simp only[newExc,newTuple];refine wpAny_bind (wpAny_newObj_type ?_ (by size_fits))
 refine wpAny_bind (m:=firstArgMember _ _) (wpAny_of_eq (a:=Value.none) (by first|rfl|(simp only[firstArgMember];rfl)) (wpAny_newObj_type ?_ (by size_fits)))
 simp only[raiseNew];refine wpAny_bind (wpAny_handled ?_);rw[show A.in1.handled=none from hh];refine wpAny_bind (wpAny_pure (wpAny_throw ?_));refine wpAny_bind (wpAny_isInstance (T:="StopIteration") (b:=true) ⟨_,Heap.get?_push_size _ rfl,rfl⟩ isSubtype_stop (wpAny_pure (q _ ?_)));exact((Heap.SameBut.update ..).extBut.push _).push _
theorem walks_raw (hh:A.handled=none) (I d:Addr) (hne:d≠I) (es:Array DictEntry) (ep:Nat) :
  Walks prog w A I [I,d] [I] es.size (fun i v=>(es[i]?).map (·.key)=some v) (fun i h=>h.IsKeyIter I d i es.size ep/\RawD h d es ep) where
 sub:=fun b hb=>by simp at hb;simp[hb]
 frame:=fun _ _ _ st hk=>⟨st.1.at fun o e=>hk I (by simp) o e,st.2.at fun o e=>hk d (by simp) o e⟩
 item:=fun i s Q E hi st hQ=>by
  have hx:es[i]?=some es[i]:=Array.getElem?_eq_getElem hi;refine next_raw st.1 st.2 hx fun h' hit' hs'=>hQ _ h' s.toks (by rw[hx];rfl) ⟨hit',st.2.at fun o e=>hs'.extBut d o hne e⟩ fun b o hb e=>hs'.extBut b o (fun z=>hb (by simp[z])) e
 done:=fun s Q E st hQ=>end_raw hh st.1 st.2 (Nat.le_refl _) fun h' he'=>hQ h' s.toks fun b o hb e=>he' b o (fun z=>hb (by simp[z])) e
 self:=fun _ _ _ _ st hQ=>wpAny_pyIter_keyiter st.1 hQ
end
end VF22
namespace VF22
open PySem PySem.Spec PyProof.Rows L2 VF
noncomputable def Itd (a:Addr) (ep:Nat×List Addr) (kvs:List (List Key×V)):It :=
 ⟨fun i H=>H a=some (.dT ep kvs)/\i<kvs.length,fun i H x H'=>H'=H/\∃k v b,kvs[i]?=some (k,v)/\x=.ref b/\ep.2[i]?=some b/\H b=some (.tup (k.map kV)),fun i H=>H a=some (.dT ep kvs)/\kvs.length<=i⟩
section
variable {P:Program} {w:World} {H:Hp} {h:Heap} {a:Addr} {ep:Nat×List Addr} {kvs:List (List Key×V)}
theorem dt_raw (ok:HOk P w H h) (e:H a=some (.dT ep kvs)):kvs.length<=sizeLine/\(a == sysModules)=false/\∃(xs:List (List Key×Addr×Value)) (es:Array DictEntry),KT H kvs xs/\xs.map (·.2.1)=ep.2/\es.toList=xs.map (entryOfKey (tupleKind (mixKind P w)))/\RawD h a es ep.1/\es.size=kvs.length:=by
 obtain⟨z,y,xs,r,ra,o,es,h1,h2,h3,h4,h5⟩:=(show ObjOk P w H h a (.dT ep kvs) from ok a _ e);refine⟨z,y,xs,es,r,ra,h4,⟨o,h1,h2,h3⟩,?_⟩;have:=congrArg List.length h4;rw[List.length_map,Array.length_toList]at this;rw[this,← Paired.length r]
theorem dt_key {xs:List (List Key×Addr×Value)} {es:Array DictEntry} (r:KT H kvs xs) (ra:xs.map (·.2.1)=ep.2) (he:es.toList=xs.map (entryOfKey (tupleKind (mixKind P w)))) {i:Nat} {x:DictEntry} (hx:es[i]?=some x) :
  ∃k v b,kvs[i]?=some (k,v)/\ep.2[i]?=some b/\x.key=.ref b/\H b=some (.tup (k.map kV)):=by
 rw[← Array.getElem?_toList,he,List.getElem?_map]at hx;obtain⟨q,e1,e2⟩:=Option.map_eq_some_iff.mp hx;have hb:ep.2[i]?=some q.2.1:=by rw[← ra,List.getElem?_map,e1];rfl
 have hl:=Paired.length r;have hi:i<kvs.length:=by rw[hl];exact(List.getElem?_eq_some_iff.mp e1).1
 have go:∀{l:List (List Key×V)} {m:List (List Key×Addr×Value)},KT H l m->∀{j:Nat} {p:List Key×V} {q:List Key×Addr×Value},l[j]?=some p->m[j]?=some q->H q.2.1=some (.tup (p.1.map kV)):=fun {l m} t=>by
  induction t with
  | nil=>intro j p q h1;simp at h1
  | cons hq t ih =>
   intro j p q h1 h2;cases j with
   | zero =>
    cases h1;cases h2;exact hq.2.1
   | succ j=>exact ih (by simpa using h1) (by simpa using h2)
 have ek:kvs[i]?=some (kvs[i].1,kvs[i].2):=List.getElem?_eq_getElem hi;refine⟨kvs[i].1,kvs[i].2,q.2.1,ek,hb,by rw[← e2];rfl,go r ek e1⟩
end
section
variable {X:Cx} {K:PySem.W.Frag} {O O' Z:AS} {H H':Hp} {tg:Expr}
theorem turn_dict {P:Program} {w:World} {K:PySem.W.Frag} {tg:Expr} (a it:Addr) (ep:Nat×List Addr) (kvs:List (List Key×V)):Turn P w K tg (Itd a ep kvs) [it] it (fun i h=>h.IsKeyIter it a i kvs.length ep.1) where
 mem:=by simp
 obj:=fun i h st b hb=>by
  have e:b=it:=by simpa using hb
  subst e;obtain⟨o,e,c,d⟩:=st;exact⟨o,e,fun v z=>by rw[d]at z;cases z⟩
 keep:=fun i h h' st k=>st.at fun o e=>k it (by simp) o e
 item:=by
  intro X hP hw hK hc i pins s σ H E I hf st hg;subst hP hw hK;obtain⟨ha,hi⟩:=hg;obtain⟨_,_,xs,es,r,ra,he,rw',hz⟩:=dt_raw I.hok ha;obtain⟨f0,f1,f2,f3,f4,f5⟩:=hf it (by simp)
  have hx:es[i]?=some (es[i]'(by omega)):=Array.getElem?_eq_getElem (by omega)
  obtain⟨k,v,b,g1,g2,g3,g4⟩:=dt_key r ra he hx;refine next_raw (by rw[hz];exact st) rw' hx fun h' st' sb=>?_
  rw[hz]at st';have I1:L2.Inv X pins σ H { s with heap:=h' }:=I.turned (t':=s.toks) (fun b o hb e=>(sb.2 b hb).trans e) f0 f1 f3 f4 f5;obtain⟨o,e,c,d⟩:=id st';exact⟨_,rfl,go_of (s:={ s with heap:=h' }) e c d (by decide) ⟨.ref b,H,I1,g3,⟨rfl,k,v,b,g1,rfl,g2,g4⟩,st',fun b hb=>(hf b hb).1⟩⟩
 done:=by
  intro X hP hw hK hc i pins s σ H E I hf st hg;subst hP hw hK;obtain⟨ha,hi⟩:=hg;obtain⟨_,_,xs,es,r,ra,he,rw',hz⟩:=dt_raw I.hok ha;obtain⟨f0,f1,f2,f3,f4,f5⟩:=hf it (by simp)
  exact end_raw (I.ok.hd hc) (by rw[hz];exact st) rw' (by omega) fun h' eb=>⟨rfl,I.turned (t':=s.toks) (fun b o hb e=>eb b o hb e) f0 f1 f3 f4 f5⟩
 self:=fun _ _ _ _ _ st h=>wpAny_pyIter_keyiter st h
noncomputable def iDic (tl:TE):TI:=fun σ H R=>tl σ H fun x H1=>∃a ep kvs,x=.ref a/\H1 a=some (.dT ep kvs)/\R (Itd a ep kvs) H1
theorem pi_dict {l:Expr} {tl:TE} (hl:PE X l tl):PI X tg l (iDic tl):=by
 intro pins s σ H R I h;refine thn (hl pins s σ H _ I h) fun v s1 ⟨x,H1,I1,r1,q1⟩=>?_;obtain⟨a,ep,kvs,rfl,ha,q⟩:=q1;cases r1;obtain⟨_,hd,xs,es,r,ra,he,rw',hz⟩:=dt_raw I1.hok ha;refine iter_raw hd rw' ?_;rw[hz];refine⟨s1.heap.objs.size,[s1.heap.objs.size],_,_,H1,rfl,I1.kept (t':=s1.toks) fun b o e=>Heap.get?_push_of_some _ e,turn_dict a _ ep kvs,⟨_,Heap.get?_push_size _ rfl,rfl,rfl⟩,fun b hb=>?_,q⟩;have e:b=s1.heap.objs.size:=by simpa using hb
 subst e;exact I1.fpOk (Nat.le_refl _) (I1.hok.fresh (Nat.le_refl _))
noncomputable def keyT:Key->D
 | .inl i=>.int i
 | .inr x=>.str x
theorem key_da {Y:AS} (k:Key):DA K Y H (kV k) (keyT k):=by
 cases k with
 | inl i=>exact .int i
 | inr x=>exact .str x
theorem keys_el {Y:AS}:∀ks:List Key,El K Y H (ks.map kV) (ks.map keyT)
 | []=>El.nil
 | k::r=>El.cons (key_da k) (keys_el r)
theorem keys_tup {Y:AS} {b:Addr} {k:List Key} (h:H b=some (.tup (k.map kV))) (n:¬ Y b):DA K Y H (.ref b) (.tup (k.map keyT)):=.tup ⟨h,n⟩ (keys_el (K:=K) (H:=H) (Y:=Y) k).1 (keys_el k).2
noncomputable def keysOfD:D->Option (List D)
 | .dt kvs=>some (kvs.map fun kv=>.tup (kv.1.map keyT))
 | _=>none
noncomputable def fID (fe:FE):FI:=fun st=>(fe st).bind fun x=>(esc x.1 x.2).bind fun y=>(keysOfD y.1).bind fun ds=>some (ds,y.2)
theorem ri_dict {te:TE} {fe:FE} (h:RdE K te fe):RdI K (iDic te) (fID fe):=by
 intro st σ H O Z R E items st' e q;obtain⟨⟨r,st1⟩,e1,e⟩:=Option.bind_eq_some_iff.mp e;obtain⟨⟨d,st2⟩,e2,e⟩:=Option.bind_eq_some_iff.mp e;obtain⟨ds,e3,e⟩:=Option.bind_eq_some_iff.mp e;cases e;refine h st σ H O Z _ E r st1 e1 fun v H1 O1 x1 k1 E1 rv w1=>?_;obtain⟨O2,x2,k2,E2,da⟩:=rv.esc E1 e2;cases d with
 | dt ds' =>
  cases e3;cases da with
  | @dt a ep kvs _ h0 ka h1 h2 h3 =>
   have hl:kvs.length=ds'.length:=by have:=congrArg List.length h2;rwa [List.length_map,List.length_map]at this
   refine⟨a,ep,kvs,rfl,h1,q _ H1 O2 (x1.trans x2) (k1.trans k2) E2 fun H' O' ex _=>?_⟩;have g1:H' a=some (.dT ep kvs):=ex.kp a _ h1 fun z=>h0 (.inl z);refine⟨fun i hi=>⟨g1,by rw[List.length_map]at hi;omega⟩,fun i d hd=>?_⟩
   rw[List.getElem?_map]at hd;obtain⟨kd,f1,f2⟩:=Option.map_eq_some_iff.mp hd;have hi:i<kvs.length:=by rw[hl];exact(List.getElem?_eq_some_iff.mp f1).1
   refine⟨⟨g1,hi⟩,fun x H'' hx=>?_⟩;obtain⟨rfl,k,v,b,f3,rfl,f5,f4⟩:=hx;have ek:k=kd.1:=by
    have:=congrArg (fun l=>l[i]?) h2;simp only[List.getElem?_map,f1,f3,Option.map_some]at this;exact Option.some.inj this
   subst ek f2;obtain⟨n1,n2⟩:=ka b (List.mem_of_getElem? f5);refine⟨Same.refl _,keys_tup f4 fun z=>?_⟩;rcases z with z|z
   ·rcases ex.nw b z with y|y
    ·exact n1 (.inl y)
    ·exact n2 y
   ·exact n1 (.inr z)
 | _=>cases e3
end
end VF22
namespace VF22
open PySem PySem.Spec PyProof.Rows L2 VF TS
section
variable {prog:Program} {w:World} {A:Around} {E:Value->Shared->Prop} {s:Shared}
theorem RawD.lt {h:Heap} {d:Addr} {es:Array DictEntry} {ep:Nat} (x:RawD h d es ep):d<h.objs.size:=let ⟨_,ho,_⟩:=x;Heap.lt_size ho
theorem src_raw {d:Addr} {es:Array DictEntry} {ep:Nat} (lo:(d == sysModules)=false):PySem.W.KdlSrc prog w "dict" d d es.size (fun i v=>(es[i]?).map (·.key)=some v) (fun h=>RawD h d es ep) where
 type:=fun _ m=>m.typeIs
 there:=fun _ m=>⟨m.lt,m.lt⟩
 keep:=fun _ _ m k=>m.at fun o e=>k d (.inl rfl) o e
 notList:=by decide
 notTuple:=by decide
 hint:=fun _ _ _ _ m q=>PySem.W.kdl_hint_dict m.typeIs q
 iter:=fun _ _ hh m=>⟨_,_,(fun _ _ q=>iter_raw lo m q),walks_raw hh _ d (Nat.ne_of_lt m.lt) es ep,⟨⟨_,Heap.get?_push_size _ rfl,rfl,rfl⟩,m.at fun o e=>Heap.get?_push_of_some _ e⟩⟩
theorem collect_raw {d:Addr} {es:Array DictEntry} {ep:Nat} {Q:List Value->Shared->Prop} (hh:A.handled=none) (lo:(d == sysModules)=false) (hm:RawD s.heap d es ep) (hz:es.size<=sizeLine)
  (q:∀h' tk,(∀b o,s.heap.get? b=some o->h'.get? b=some o)->Q (es.toList.map (·.key)) { s with heap:=h',toks:=tk }):wpAny (model prog w) A (collect (.ref d)) Q E s:=by
 refine PySem.W.kdu_collect (src_raw lo) hh hm hz fun h' tk acc' kp hi=>?_;have e:acc'.toList=es.toList.map (·.key):=by
  refine List.ext_getElem (by rw[Array.length_toList,hi.1,List.length_map,Array.length_toList]) fun i h1 h2=>?_
  have a:(es[i]?).map (·.key)=some acc'[i]:=hi.2 i acc'[i] (Array.getElem?_eq_getElem (by simpa using h1))
  rw[Array.getElem?_eq_getElem (by rw[List.length_map,Array.length_toList]at h2;exact h2)]at a
  have a':=Option.some.inj a;rw[Array.getElem_toList,List.getElem_map,Array.getElem_toList];exact a'.symm
 rw[e];exact q h' tk kp
theorem sorted_by {x:Value} {vs:List Value} {ds:List D} {κ:SortKind} {Q:Value->Shared->Prop} (hh:A.handled=none)
  (coll:∀(A:Around) (E:Value->Shared->Prop) (Q:List Value->Shared->Prop),A.handled=none->(∀h' tk,(∀b o,s.heap.get? b=some o->h'.get? b=some o)->Q vs { s with heap:=h',toks:=tk })->wpAny (model prog w) A (collect x) Q E s) (hz:vs.length<=sizeLine)
  (hn:vs.length=ds.length) (r:∀(i:Nat) u d,vs[i]?=some u->ds[i]?=some d->RH s.heap u d) (pl:∀d∈ds,Pl 40 d) (ca:CA 40 ds) (hk:Kd ds κ) (hu:A.units+64<cLine)
  (fin:∀(γ:Array Nat) (h':Heap) (a:Addr) (n tk:Nat),γ.Perm (Array.range vs.length)->Sg (cD ds) γ 0 vs.length->(∀b o,s.heap.get? b=some o->h'.get? b=some o)->(∀b o,s.heap.get? b=some o->b≠a)->h'.get? a=some (seqObj "list" (atTags vs γ) n)->Q (.ref a) { s with heap:=h',toks:=tk }) :
  wpAny (model prog w) A (call (.builtin "sorted") [x]) Q E s:=by
 refine Calls.call_function_entry kind_sorted plain_sorted entry_sorted (args_sorted1 _) ?_;refine wpAny_bind (m:=checkCount "sorted" 1 1 _) (wpAny_pure (wpAny_bind (coll _ _ _ hh fun h1 tk kp=>wpAny_bind (wpAny_newList ?_))));have mine:(h1.push (seqObj "list" vs.toArray 0)).get? h1.objs.size=some (seqObj "list" vs.toArray 0):=Heap.get?_push_size _ rfl;show wpAny _ _ _ _ _ { s with heap:=h1.push (seqObj "list" vs.toArray 0),toks:=tk };refine wpAny_bind (wpAny_holding (wpAny_call_entry slot_list_sort ⟨_,mine,rfl⟩ entry_list_sort ?_ (args_list_sort _)));have old2:∀b o,s.heap.get? b=some o->b≠h1.objs.size:=fun b o e=>Nat.ne_of_lt (Heap.lt_size (kp b o e));refine sort_data (s:={ s with heap:=h1.push (seqObj "list" vs.toArray 0),toks:=tk }) mine hz hn (fun i u d e1 e2=>(r i u d e1 e2).kept fun b o e=>?_) pl ca hk (by show A.units+1+1+40<cLine;omega) fun γ p g=>?_
 ·exact Heap.get?_push_of_some _ (Heap.get?_push_of_some _ ((Heap.get?_update_ne _ _ _ _ (old2 b o e)).trans (Heap.get?_push_of_some _ (kp b o e))))
 ·obtain⟨n,hn'⟩:=sortedHeap_at (n:=0) (vs:=vs) (out:=atTags vs γ) mine;refine⟨_,rfl,wpAny_pure ⟨_,rfl,fin γ _ _ n tk p g (fun b o e=>?_) old2 hn'⟩⟩;have hb:b<(h1.push (seqObj "list" vs.toArray 0)).objs.size:=by rw[size_push'];exact Nat.lt_succ_of_lt (Heap.lt_size (kp b o e))
  rw[sortedHeap_old (old2 b o e) hb];exact Heap.get?_push_of_some _ (kp b o e)
end
section
variable {X:Cx} {K:PySem.W.Frag} {Y:AS} {H:Hp}
noncomputable def rSortT:List V->Hp->VK->Prop:=fun xs H Q=>∃(a:Addr) (ep:Nat×List Addr) (kvs:List (List Key×V)) (κ:SortKind),xs=[.ref a]/\H a=some (.dT ep kvs)/\(∀x∈kvs.map (fun kv=>D.tup (kv.1.map keyT)),Pl 40 x)/\CA 40 (kvs.map fun kv=>D.tup (kv.1.map keyT))/\Kd (kvs.map fun kv=>D.tup (kv.1.map keyT)) κ /\
 ∀(p:Addr) (bs:List Addr),H p=none->(∀b∈bs,b∈ep.2)->(∃ks:List (List Key),ks.map (fun k=>D.tup (k.map keyT))=sortD 40 (kvs.map fun kv=>D.tup (kv.1.map keyT))/\bs.length=ks.length/\∀(i:Nat) b k,bs[i]?=some b->ks[i]?=some k->H b=some (.tup (k.map kV)))->Q (.ref p) (upd H p (.lst (bs.map V.ref)))
theorem call_sortT {n:Nat} (h:X.K=K) (hc:X.calm=true) (hr:Room n X.A):CallR X (.builtin "sorted") rSortT:=by
 intro pins s σ H xs us Q I rv hh;obtain⟨a,ep,kvs,κ,rfl,ha,pl,ca,hk,q⟩:=hh;obtain⟨u,rfl,ru⟩:=vals1 rv;cases ru;obtain⟨hz,lo,xs,es,rk,ra,he,rw',esz⟩:=dt_raw I.hok ha;have key:∀(i:Nat) (x:DictEntry),es[i]?=some x->∃k v b,kvs[i]?=some (k,v)/\ep.2[i]?=some b/\x.key=.ref b/\H b=some (.tup (k.map kV)):=fun i x hx=>dt_key rk ra he hx;have ln:(es.toList.map (·.key)).length=(kvs.map fun kv=>D.tup (kv.1.map keyT)).length:=by rw[List.length_map,List.length_map,Array.length_toList,esz]
 have at_:∀(i:Nat) u,(es.toList.map (·.key))[i]?=some u->∃k v b,kvs[i]?=some (k,v)/\ep.2[i]?=some b/\u=.ref b/\H b=some (.tup (k.map kV)):=fun i u e=>by
  rw[List.getElem?_map]at e;obtain⟨x,e1,e2⟩:=Option.map_eq_some_iff.mp e;obtain⟨k,v,b,g1,g2,g3,g4⟩:=key i x (by rw[← Array.getElem?_toList];exact e1)
  exact⟨k,v,b,g1,g2,by rw[← e2];exact g3,g4⟩
 refine sorted_by (vs:=es.toList.map (·.key)) (ds:=kvs.map fun kv=>D.tup (kv.1.map keyT)) (κ:=κ) (I.ok.hd hc) (fun A E Q hA q=>collect_raw hA lo rw' (by rw[esz];exact hz) q) (by rw[List.length_map,Array.length_toList,esz];exact hz) ln (fun i u d e1 e2=>?_) pl ca hk hr.units fun γ h' p n tk pm g kp ge hat=>?_
 ·obtain⟨k,v,b,g1,g2,rfl,g4⟩:=at_ i u e1;have e2':=e2;rw[List.getElem?_map,g1]at e2;cases e2;have da:DA K (fun _=>False) H (.ref b) (.tup (k.map keyT)):=keys_tup g4 fun z=>z;exact da.rh (pl _ (List.mem_of_getElem? e2')) I h rfl
 ·rw[ln]at pm g;have hpn:H p=none:=by
   cases e:H p with
   | none=>rfl
   | some o =>
    obtain⟨ob,e'⟩:=(I.hok p o e).there;exact absurd rfl (ge p ob e')
  have eo:=srt_of ca pm g;have hγ:∀g∈γ.toList,g<kvs.length:=fun g hg=>by
   have:=(Array.perm_iff_toList_perm.mp pm).mem_iff.mp hg;rw[Array.toList_range,List.length_map]at this;exact List.mem_range.mp this
  have las:ep.2.length=kvs.length:=by rw[← ra,List.length_map,← Paired.length rk]
  have e2:(atTags (es.toList.map (·.key)) γ).toList=γ.toList.map fun g=>(es.toList.map (·.key)).getD g .none:=by unfold atTags;simp
  have vw:Vals ((γ.toList.map fun g=>ep.2.getD g 0).map V.ref) (atTags (es.toList.map (·.key)) γ).toList:=by
   rw[e2,List.map_map];have:∀l:List Nat,(∀g∈l,g<kvs.length)->Vals (l.map (V.ref ∘ fun g=>ep.2.getD g 0)) (l.map fun g=>(es.toList.map (·.key)).getD g .none):=fun l=>by
    induction l with
    | nil=>exact fun _=>.nil
    | cons g l ih =>
     intro hl;have hg:g<kvs.length:=hl g List.mem_cons_self;have a1:(es.toList.map (·.key))[g]?=some ((es.toList.map (·.key))[g]'(by rw[ln,List.length_map];exact hg)):=List.getElem?_eq_getElem _
     obtain⟨k,v,b,g1,g2,g3,g4⟩:=at_ g _ a1;refine .cons ?_ (ih fun x hx=>hl x (List.mem_cons_of_mem _ hx));show(es.toList.map (·.key)).getD g .none=Value.ref (ep.2.getD g 0);rw[List.getD_eq_getElem?_getD,List.getD_eq_getElem?_getD,a1,g2,Option.getD_some,g3];rfl
   exact this _ hγ
  refine⟨.ref p,upd H p (.lst ((γ.toList.map fun g=>ep.2.getD g 0).map V.ref)),I.laid2 kp ge hpn ⟨?_,(atTags (es.toList.map (·.key)) γ).toList,n,vw,by simpa using hat⟩,rfl,q p _ hpn (fun b hb=>?_) ⟨γ.toList.map fun g=>(kvs.map (·.1)).getD g [],?_,by simp,fun i b k h1 h2=>?_⟩⟩
  ·rw[List.length_map,List.length_map,Array.length_toList,pm.size_eq,Array.size_range,List.length_map];exact hz
  ·obtain⟨g,hg,rfl⟩:=List.mem_map.mp hb;have hg':=hγ g hg;rw[List.getD_eq_getElem?_getD,List.getElem?_eq_getElem (by omega)]
   exact List.getElem_mem _
  ·rw[← eo,List.map_map];refine List.map_congr_left fun g hg=>?_;have hg':=hγ g hg;show D.tup (((kvs.map (·.1)).getD g []).map keyT)=_;rw[dk_at (d:=D.tup (kvs[g].1.map keyT)) (by rw[List.getElem?_map,List.getElem?_eq_getElem hg'];rfl),List.getD_eq_getElem?_getD,List.getElem?_map,List.getElem?_eq_getElem hg'];rfl
  ·rw[List.getElem?_map]at h1 h2;obtain⟨g1,k1,k2⟩:=Option.map_eq_some_iff.mp h1;obtain⟨g2,k3,k4⟩:=Option.map_eq_some_iff.mp h2;rw[k1]at k3;cases k3;have hg':=hγ g1 (List.mem_of_getElem? k1);have a1:(es.toList.map (·.key))[g1]?=some ((es.toList.map (·.key))[g1]'(by rw[ln,List.length_map];exact hg')):=List.getElem?_eq_getElem _
   obtain⟨k',v,b',f1,f2,f3,f4⟩:=at_ g1 _ a1;rw[List.getD_eq_getElem?_getD,f2]at k2;rw[List.getD_eq_getElem?_getD,List.getElem?_map,f1]at k4;subst k2 k4;exact f4
open Classical in
noncomputable def bSortT:List D->Option Rz
 | [d]=>match keysOfD d with
  | some ds=>if (∀x∈ds,Pl 40 x)/\CA 40 ds/\∃κ,Kd ds κ then some (.lst (sortD 40 ds),true) else none
  | none=>none
 | _=>none
theorem rc_sortT:RdCB K rSortT bSortT:=by
 intro Y H xs ds z Q lv bs e q;cases bs with
 | nil=>cases e
 | @cons v vs d ds b1 bs =>
  cases bs with
  | cons _ _=>cases e
  | nil =>
   cases d with
   | dt kd =>
    unfold bSortT at e;dsimp only[keysOfD]at e;obtain⟨a,ep,kvs,rfl,ka,h1,h2,h3⟩:=b1;have ek:(kd.map fun kv=>D.tup (kv.1.map keyT))=kvs.map fun kv=>D.tup (kv.1.map keyT):=by
     have:∀{α:Type} (l:List (List Key×α)),(l.map fun kv=>D.tup (kv.1.map keyT))=(l.map (·.1)).map fun k=>D.tup (k.map keyT):=fun l=>by rw[List.map_map];rfl
     rw[this,this,h2]
    rw[ek]at e;by_cases c:(∀x∈kvs.map (fun kv=>D.tup (kv.1.map keyT)),Pl 40 x)/\CA 40 (kvs.map fun kv=>D.tup (kv.1.map keyT))/\∃κ,Kd (kvs.map fun kv=>D.tup (kv.1.map keyT)) κ
    ·rw[if_pos c]at e;cases e;obtain⟨c1,c2,κ,c3⟩:=c;refine⟨a,ep,kvs,κ,rfl,h1,c1,c2,c3,fun p bs hp hb ⟨ks,k1,k2,k3⟩=>q _ _ (same_upd hp _) (res_new ?_ hp)⟩;rw[← k1];refine⟨by rw[List.length_map,List.length_map,k2],fun i v d e1 e2=>?_⟩
     rw[List.getElem?_map]at e1 e2;obtain⟨b,f1,rfl⟩:=Option.map_eq_some_iff.mp e1;obtain⟨k,f2,rfl⟩:=Option.map_eq_some_iff.mp e2;exact keys_tup (k3 i b k f1 f2) (ka b (hb b (List.mem_of_getElem? f1))).1
    ·rw[if_neg c]at e;cases e
   | _=>cases e
end
end VF22
namespace VF22
open PySem PySem.Spec PyProof.Rows L2 VF
section
variable {X:Cx} {K:PySem.W.Frag}
theorem range_any (bs:List Bool):(List.range bs.length).any (fun i=>bs.getD i false)=bs.any id:=by
 induction bs with
 | nil=>rfl
 | cons b r ih =>
  rw[List.length_cons,List.range_succ_eq_map,List.any_cons,List.any_map,List.any_cons,← ih];rfl
noncomputable def rAny (K:PySem.W.Frag):List V->Hp->VK->Prop:=fun xs H Q=>∃(p:Addr) (bs:List Bool),xs=[.ref p]/\SqL K H p (bs.map V.bl)/\Q (.bl (bs.any id)) H
theorem call_any (hK:X.K=K) (hc:X.calm=true):CallR X (.builtin "any") (rAny K):=by
 subst hK;intro pins s σ H xs us Q I rv h;obtain⟨p,bs,rfl,hq,q⟩:=h;obtain⟨u,rfl,ru⟩:=vals1 rv;cases ru;obtain⟨its,r,pl,hz⟩:=I.list hq;have hlen:its.length=bs.length:=by have:=r.length;simpa using this.symm
 obtain⟨op,np,ep,cp,dp,sp⟩:=id pl;have hne:p≠s.heap.objs.size:=Nat.ne_of_lt (Heap.lt_size ep);refine call_any_walk (wpAny_pyIter_list pl.isList ?_);refine⟨s.heap.objs.size,_,_,_,_,_,fun i=>bs.getD i false,rfl,Walks.list (show X.A.in1.handled=none from I.ok.hd hc) s.heap.objs.size p hne its.toArray,⟨⟨_,Heap.get?_push_size _ rfl,rfl,rfl⟩,⟨op,Heap.get?_push_of_some _ ep,cp,np,sp⟩⟩,?_,fun h' tk kp=>?_⟩
 ·intro i v s' Q' E' hv hQ';have hv':its[i]?=some v:=by simpa using hv
  have hi:i<its.length:=(List.getElem?_eq_some_iff.mp hv').1;have hb:(bs.map V.bl)[i]?=some (V.bl (bs[i]'(by omega))):=by rw[List.getElem?_map,List.getElem?_eq_getElem (by omega)];rfl
  obtain⟨u',e1,e2⟩:=r.get hb;rw[hv']at e1;cases e1;cases e2;have this:bs.getD i false=bs[i]'(by omega):=by rw[List.getD_eq_getElem?_getD,List.getElem?_eq_getElem (by omega)];rfl
  have hQ2:Q' (bs.getD i false) s':=hQ';rw[this]at hQ2;exact wpAny_truthy_bool hQ2
 ·have e:(List.range its.toArray.size).any (fun i=>bs.getD i false)=bs.any id:=by rw[List.size_toArray,hlen];exact range_any bs
  rw[e];refine⟨.bl (bs.any id),H,I.kept (fun b o e=>kp b o ?_ (Heap.get?_push_of_some _ e)),rfl,q⟩;intro z;have z':b=s.heap.objs.size:=by simpa using z
  exact absurd (Heap.lt_size e) (by rw[z'];exact Nat.lt_irrefl _)
noncomputable def bAny:List D->Option Rz
 | [.lst ds]=>(asBls ds).bind fun bs=>some (.bl (bs.any id),false)
 | _=>none
theorem rc_any:RdCB K (rAny K) bAny:=by
 intro Y H xs ds z Q lv bs e q;cases bs with
 | nil=>cases e
 | @cons v vs d ds b1 bs =>
  cases bs with
  | cons _ _=>cases d<;>cases e
  | nil =>
   cases d with
   | lst a =>
    obtain⟨bs,e1,e⟩:=Option.bind_eq_some_iff.mp e;cases e;obtain⟨p,xs,rfl,hp,el⟩:=b1;obtain rfl:=asBls_el el e1;exact⟨p,bs,rfl,.inl (.inl hp),q _ H (Same.refl H) (.bl _)⟩
   | _=>cases e
noncomputable def rngV (lo:Int) (n:Nat):List V:=(List.range n).map fun i=>V.int (lo+(i:Nat))
theorem rngV_vals {acc:Array Value} {lo:Int} {n:Nat} (hi:ItemsOf (fun i v=>∃t,v=Value.int (lo+(i:Nat)*1) t) acc n):Vals (rngV lo n) acc.toList:=by
 obtain⟨h1,h2⟩:=hi;have gen:∀(m k:Nat) (l:List Value),l.length=m->(∀(j:Nat) v,l[j]?=some v->∃t,v=Value.int (lo+((k+j:Nat):Int)) t)->Vals ((List.range m).map fun i=>V.int (lo+((k+i:Nat):Int))) l:=by
  intro m;induction m with
  | zero =>
   intro k l hl _;cases l with
   | nil=>exact .nil
   | cons _ _=>cases hl
  | succ m ih =>
   intro k l hl hv;cases l with
   | nil=>cases hl
   | cons v l =>
    rw[List.range_succ_eq_map,List.map_cons,List.map_map];refine .cons ?_ ?_
    ·obtain⟨t,e⟩:=hv 0 v rfl;exact⟨t,e⟩
    ·have:=ih (k+1) l (by simpa using hl) fun j u e=>by
      obtain⟨t,e'⟩:=hv (j+1) u (by simpa using e)
      exact⟨t,by rw[e',show k+1+j=k+(j+1) by omega]⟩
     refine(congrArg (fun z=>Vals z l) (List.map_congr_left fun i _=>?_)).mp this;show V.int (lo+((k+1+i:Nat):Int))=V.int (lo+((k+(i+1):Nat):Int));rw[show k+1+i=k+(i+1) by omega]
 have:=gen n 0 acc.toList (by rw[Array.length_toList];exact h1) fun j v e=>by
  obtain⟨t,e'⟩:=h2 j v (by rw[← Array.getElem?_toList];exact e)
  exact⟨t,by rw[e',Int.mul_one,Nat.zero_add]⟩
 refine(congrArg (fun z=>Vals z acc.toList) (List.map_congr_left fun i _=>?_)).mp this;rw[Nat.zero_add]
end
end VF22
namespace VF22
open PySem PySem.Spec PyProof.Rows L2 VF
section
variable {X:Cx} {K:PySem.W.Frag}
noncomputable abbrev RB (lo hi:Int):Prop:=-(2 ^ 30)<=lo/\lo<2 ^ 30/\-(2 ^ 30)<=hi/\hi<2 ^ 30/\(hi-lo).toNat<=1000000
noncomputable def tRngO1 (ta:TA):TE:=fun σ H Q=>ta σ H fun vs H1=>∃j:Int,vs=[.int j]/\(-(2 ^ 30)<=j/\j<2 ^ 30)/\∀p,H1 p=none->Q (.ref p) (upd H1 p (.rng 0 j))
noncomputable def tRngO2 (ta:TA):TE:=fun σ H Q=>ta σ H fun vs H1=>∃i j:Int,vs=[.int i,.int j]/\(-(2 ^ 30)<=i/\i<2 ^ 30/\-(2 ^ 30)<=j/\j<2 ^ 30)/\∀p,H1 p=none->Q (.ref p) (upd H1 p (.rng i j))
theorem rng_laid {pins:List (Addr×Obj)} {σ:L2.St} {H:Hp} {s:Shared} {lo hi:Int} {t u v:Tok} {tk:Nat} {Q:VK} (I:L2.Inv X pins σ H s) (q:∀p,H p=none->Q (.ref p) (upd H p (.rng lo hi))) :
  EP X pins σ Q (.ref s.heap.objs.size) { s with heap:=s.heap.push { cls:=.type "range",data:=.fields #[.int lo t,.int hi u,.int 1 v] },toks:=tk } :=
 ⟨.ref _,_,I.laid (o:=.rng lo hi) (t':=tk) (fun b o e=>Heap.get?_push_of_some _ e) (Nat.le_refl _) ⟨t,u,v,Heap.get?_push_size _ rfl⟩,rfl,q _ (I.hok.fresh (Nat.le_refl _))⟩
theorem pe_rngO1 {a:Expr} {ta:TA} {p pos:Pos} (hg:Gl X "range") (hm:X.mg "range"=none) (ha:PA X [a] ta) (hs:starEach [a] X.env=[(false,eval a X.env)]:=by rfl):PE X (.Call (.Name "range" p) [a] [] pos) (tRngO1 ta):=by
 intro pins s σ H Q I h;refine Call_ (ld_blt I hg hm boot_range (PyProof.Rows.callWith_type1 (thn (ha pos pins s σ H _ I h) fun us s1 ⟨vs,H1,I1,r1,q1⟩=>?_) hs rfl));obtain⟨j,rfl,⟨h1,h2⟩,q⟩:=q1;cases r1 with
 | cons r rr =>
  cases rr;obtain⟨t,rfl⟩:=r;exact call_range_1 (rng_laid I1 q)
theorem pe_rngO2 {a b:Expr} {ta:TA} {p pos:Pos} (hg:Gl X "range") (hm:X.mg "range"=none) (ha:PA X [a,b] ta) (hs:starEach [a,b] X.env=[(false,eval a X.env),(false,eval b X.env)]:=by rfl) (hs2:starEach [b] X.env=[(false,eval b X.env)]:=by rfl):PE X (.Call (.Name "range" p) [a,b] [] pos) (tRngO2 ta):=by
 intro pins s σ H Q I h;refine Call_ (ld_blt I hg hm boot_range (PyProof.Rows.callWith_type1 (thn (ha pos pins s σ H _ I h) fun us s1 ⟨vs,H1,I1,r1,q1⟩=>?_) (by rw[hs,hs2]) (by rw[hs2];rfl)))
 obtain⟨i,j,rfl,⟨h1,h2,h3,h4⟩,q⟩:=q1;cases r1 with
 | cons r rr =>
  cases rr with
  | cons r' rr =>
   cases rr;obtain⟨t,rfl⟩:=r;obtain⟨t',rfl⟩:=r';exact call_range_2 (rng_laid I1 q)
noncomputable def rListR:List V->Hp->VK->Prop:=fun xs H Q=>∃(p:Addr) (lo hi:Int),xs=[.ref p]/\H p=some (.rng lo hi)/\RB lo hi/\∀l,H l=none->Q (.ref l) (upd H l (.lst (rngV lo (hi-lo).toNat)))
theorem call_listR (hc:X.calm=true):CallR X (.type "list") rListR:=by
 intro pins s σ H xs us Q I rv h;obtain⟨p,lo,hi,rfl,hp,b,q⟩:=h;obtain⟨w,rfl,ru⟩:=vals1 rv;cases ru;obtain⟨t,u,v,ho⟩:=(show ObjOk X.prog X.w H s.heap p (.rng lo hi) from I.hok p _ hp);have hn:Builtin.Range.rangeSize lo hi 1=(((hi-lo).toNat:Nat):Int):=by rw[rangeSize_one];split<;>omega
 refine call_list_range (I.ok.hd hc) (show IsRange s.heap p lo hi 1 t u v from ho) (small_one (by omega) (by omega) (by omega) (by omega)) hn (by omega) fun h' tk' acc' c' kp hS hi'=>?_
 refine⟨.ref _,upd H _ (.lst (rngV lo (hi-lo).toNat)),I.laid kp (Nat.le_refl _) ⟨?_,acc'.toList,c',rngV_vals hi',by simpa using hS⟩,rfl,q _ (I.hok.fresh (Nat.le_refl _))⟩
 unfold rngV;rw[List.length_map,List.length_range];exact few b.2.2.2.2
theorem rng_el {Y:AS} {H:Hp} (lo:Int) (n:Nat):El K Y H (rngV lo n) (rng lo n):=by
 unfold rngV rng;refine⟨by simp,fun i v d h1 h2=>?_⟩
 rw[List.getElem?_map]at h1 h2;obtain⟨x,e1,rfl⟩:=Option.map_eq_some_iff.mp h1;rw[e1]at h2;cases h2;exact .int _
theorem oneI_v {Y:AS} {H:Hp} {vs:List V} {ds:List D} {j:Int} (bs:BAs K Y H vs ds) (e3:oneI ds=some j):vs=[.int j]:=by
 have ed:ds=[.int j]:=by
  unfold oneI at e3;split at e3
  ·cases e3;rfl
  ·cases e3
 subst ed;cases bs with
 | cons b1 b2 =>
  cases b2;obtain rfl:=(show _=V.int j from b1);rfl
theorem twoI_v {Y:AS} {H:Hp} {vs:List V} {ds:List D} {i j:Int} (bs:BAs K Y H vs ds) (e3:twoI ds=some (i,j)):vs=[.int i,.int j]:=by
 have ed:ds=[.int i,.int j]:=by
  unfold twoI at e3;split at e3
  ·cases e3;rfl
  ·cases e3
 subst ed;cases bs with
 | cons b1 b2 =>
  cases b2 with
  | cons b2 b3 =>
   cases b3;obtain rfl:=(show _=V.int i from b1);obtain rfl:=(show _=V.int j from b2);rfl
noncomputable def fLR1 (fa:FA):FE:=fun st=>(fa st).bind fun x=>(contAll x.2 x.1).bind fun ds=>(oneI ds).bind fun j=>if RB 0 j then some (.f (.lst (rng 0 (j-0).toNat)),x.2) else none
noncomputable def fLR2 (fa:FA):FE:=fun st=>(fa st).bind fun x=>(contAll x.2 x.1).bind fun ds=>(twoI ds).bind fun p=>if RB p.1 p.2 then some (.f (.lst (rng p.1 (p.2-p.1).toNat)),x.2) else none
theorem rd_rl {st:En} {σ:L2.St} {H H1:Hp} {O O1 Z:AS} {lo hi:Int} {Q:VK} {r:Rs} {st':En} (E:ER K st' σ H1 O1 Z) (x1:Ext O H O1 H1) (k1:Kp st st') (b:RB lo hi) (he:r=.f (.lst (rng lo (hi-lo).toNat)))
  (q:∀v H' O',Ext O H O' H'->Kp st st'->ER K st' σ H' O' Z->RVal K Z st' σ H' O' v r->Fsh H v r->Q v H'):∀p,H1 p=none->rListR [.ref p] (upd H1 p (.rng lo hi)) Q:=fun p hp=>by
 subst he;refine⟨p,lo,hi,rfl,upd_same,b,fun l hl=>?_⟩;have s1:=same_upd hp (HO.rng lo hi);have E1:=E.same s1;obtain⟨E2,rv⟩:=E1.new hl (rng_el lo (hi-lo).toNat);have x2:Ext O1 H1 O1 (upd H1 p (.rng lo hi)):=Same.ext s1;exact q _ _ O1 ((x1.trans x2).trans (Same.ext (same_upd hl _))) k1 E2 rv fun p' e=>by cases e;exact(x1.trans x2).dead hl
theorem rd_lr1 {ta:TA} {fa:FA} (h:RdA K ta fa):RdE K (tCB rListR (tCons (tRngO1 ta) tNil)) (fLR1 fa):=by
 intro st σ H O Z Q E r st' e q;obtain⟨⟨rs,st1⟩,e1,e⟩:=Option.bind_eq_some_iff.mp e;obtain⟨ds,e2,e⟩:=Option.bind_eq_some_iff.mp e;obtain⟨j,e3,e⟩:=Option.bind_eq_some_iff.mp e;by_cases c:RB 0 j
 ·rw[if_pos c]at e;cases e;refine h st σ H O Z _ E rs _ e1 fun vs H1 O1 x1 k1 E1 rvs=>?_;have hv:=oneI_v (rvs.bas E1 e2) e3;exact⟨j,hv,⟨c.2.2.1,c.2.2.2.1⟩,rd_rl E1 x1 k1 c rfl q⟩
 ·rw[if_neg c]at e;cases e
theorem rd_lr2 {ta:TA} {fa:FA} (h:RdA K ta fa):RdE K (tCB rListR (tCons (tRngO2 ta) tNil)) (fLR2 fa):=by
 intro st σ H O Z Q E r st' e q;obtain⟨⟨rs,st1⟩,e1,e⟩:=Option.bind_eq_some_iff.mp e;obtain⟨ds,e2,e⟩:=Option.bind_eq_some_iff.mp e;obtain⟨⟨i,j⟩,e3,e⟩:=Option.bind_eq_some_iff.mp e;by_cases c:RB i j
 ·rw[if_pos c]at e;cases e;refine h st σ H O Z _ E rs _ e1 fun vs H1 O1 x1 k1 E1 rvs=>?_;have hv:=twoI_v (rvs.bas E1 e2) e3;exact⟨i,j,hv,⟨c.1,c.2.1,c.2.2.1,c.2.2.2.1⟩,rd_rl E1 x1 k1 c rfl q⟩
 ·rw[if_neg c]at e;cases e
end
section
variable {prog:Program} {w:World} {A:Around} {E:Value->Shared->Prop} {s:Shared}
theorem set_all {l m sl:Addr} {xs ys:Array Value} {n k:Nat} {Q:Unit->Shared->Prop} (ho:s.heap.get? l=some { cls:=.type "list",data:=.seq xs n }) (hm:s.heap.get? m=some { cls:=.type "list",data:=.seq ys k }) (hne:l≠m)
  (hs:s.heap.IsSliceOf sl .none .none .none) (hz:xs.size+ys.size<=sizeLine)
  (q':∀f:Array Value->Array Value,f xs=ys->Q () { s with heap:=s.heap.update l (Obj.mapSeq f) }):wpAny (model prog w) A (setItem (.ref l) (.ref sl) (.ref m)) Q E s:=by
 have hl:s.heap.IsList l xs:=PySem.IsL.isList (n:=n) ho;obtain⟨os,hos,hcs,hds⟩:=id hs;have ts:s.TypeIs (.ref sl) "slice":=⟨os,hos,hcs⟩;have tm:s.TypeIs (.ref m) "list":=⟨_,hm,rfl⟩;unfold setItem
 try with_reducible refine wpAny_holding ?_
 first|refine wpAny_bind (wpAny_pure ?_)|skip
 refine wpAny_bind (wpAny_sequenceKey hl.typeIs (by decide) (wpAny_bind (wpAny_callSpecial?_slot (name:=Str.ofString "__setitem__") hl.typeIs slot_list_setitem (wpAny_call_entry slot_list_setitem hl.typeIs entry_list_setitem ?_ (args_list_setitem _ _ _)))))
 show wpAny _ _ (Builtin.List.listSubscript? (.ref sl) >>= _) _ _ s;refine wpAny_bind ?_;unfold Builtin.List.listSubscript?;refine wpAny_bind (wpAny_specialOf ts slice_no_index ?_);simp only[Option.isNone_none,if_true];refine wpAny_pure ?_;show wpAny _ _ (typeOf (.ref sl) >>= _) _ _ s;refine wpAny_bind (wpAny_typeOf ts ?_);rw[if_neg (by decide),listSliceParts_eq]
 refine wpAny_bind (wpAny_bind (wpAny_field hos hds (x:=.none) rfl (wpAny_bind (wpAny_listPart .none ?_))));rw[if_neg (show ¬ ((rawPart none == rawInt 0)=true) from Bool.false_ne_true)];refine wpAny_bind (wpAny_field hos hds (x:=.none) rfl (wpAny_bind (wpAny_listPart .none (wpAny_bind (wpAny_field hos hds (x:=.none) rfl (wpAny_bind (wpAny_listPart .none (wpAny_pure ?_))))))));have hsr:Builtin.List.listSameRef (.ref l) (.ref m)=false:=by simp[Builtin.List.listSameRef,hne]
 simp only[hsr,Bool.false_eq_true,if_false];refine wpAny_bind ?_;unfold Builtin.List.listAllItems;refine wpAny_bind (wpAny_typeOf tm ?_);rw[if_pos (by rw[show(Value.type "list" == Value.type "list")=true from rfl];rfl)]
 refine listItems_at hm rfl (wpAny_bind (listItems_at ho rfl ?_));refine wpAny_bind (wpAny_of_eq (sliceIndices_raw none none none xs.size (by simp)) ?_)
 show wpAny _ _ (if ((1:Int) == 1)=true then _ else _) _ _ s;rw[if_pos (show((1:Int) == 1)=true from rfl)];refine wpAny_bind (wpAny_rule ?_);rw[if_neg (by unfold Builtin.List.listTooLong;rw[decide_eq_true_eq];omega)]
 have ef:xs.extract 0 (sliceBounds none none none xs.size).1.toNat++ys++xs.extract (max (sliceBounds none none none xs.size).1 (sliceBounds none none none xs.size).2.1).toNat xs.size=ys:=by
  show xs.extract 0 (0:Int).toNat++ys++xs.extract (max (0:Int) (xs.size:Int)).toNat xs.size=ys;have:(max (0:Int) (xs.size:Int)).toNat=xs.size:=by omega
  rw[this];simp
 refine wpAny_bind (listUpdate_at ho rfl ?_ (by omega) ?_)
 ·refine wpAny_bind (wpAny_letGo ?_);exact wpAny_bind (wpAny_pure (wpAny_pure ⟨.none,rfl,wpAny_pure (q' _ ef)⟩))
 ·exact Nat.le_trans (Nat.le_of_eq (congrArg Array.size ef)) (by omega)
end
end VF22
namespace VF22
open PySem PySem.Spec PyProof.Rows L2 VF
section
variable {X:Cx} {K:PySem.W.Frag}
noncomputable def gSlc (to:TE):TG:=fun v σ H Q=>to σ H fun o H1=>∃(p m:Addr) (xs ys:List V),o=.ref p/\v=.ref m/\p≠m/\H1 p=some (.lst xs)/\H1 m=some (.lst ys)/\xs.length+ys.length<=1000000/\Q σ (upd H1 p (.lst ys))
theorem pg_slc {o:Expr} {to:TE} {pos p2:Pos} (ho:PE X o to):PG X (.Subscript o (.Slice none none none p2) pos) (gSlc to):=by
 intro pins s σ H v u Q I r h
 have ha:assign (.Subscript o (.Slice none none none p2) pos) X.env u=(do
   let ov ← holding [u] (eval o X.env)
   let iv ← holding [u,ov] (eval (.Slice none none none p2) X.env)
   standAt pos
   holding [u,ov,iv] (setItem ov iv u)
   release [iv,u,ov] []):=rfl
 rw[ha];refine wpAny_bind (wpAny_holding (thn (ho pins s σ H _ I h) fun ov s1 ⟨x,H1,I1,r1,q1⟩=>?_));obtain⟨p,m,xs,ys,rfl,rfl,hne,hp,hm,hz,q⟩:=q1;cases r1;cases r;refine wpAny_bind (wpAny_holding (wpAny_Slice ?_));rw[evalPart_none];refine wpAny_pure (wpAny_pure (wpAny_pure ?_));refine wpAny_bind (wpAny_standAt (wpAny_bind (wpAny_holding ?_)));have I2:L2.Inv X pins σ H1 { s1 with heap:=s1.heap.push { cls:=.type "slice",data:=.fields #[.none,.none,.none] } }:=I1.kept (t':=s1.toks) fun b ob q=>Heap.get?_push_of_some _ q;obtain⟨its,n,rx,hox,hzx⟩:=I2.lst hp;obtain⟨jts,k,ry,hoy,hzy⟩:=I2.lst hm;have hs:=few (n:=xs.length+ys.length) hz;have lx:=rx.length;have ly:=ry.length;refine set_all hox hoy hne (Heap.IsSliceOf.new ..) (by rw[List.size_toArray,List.size_toArray];omega) fun f ef=>wpAny_release ⟨σ,_,I2.lstUpd (its':=jts) (n':=if jts.toArray.size == its.toArray.size then n else n+1) hp hox ?_ ry hzy s1.toks,q⟩
 show Obj.mapSeq f _=_;simp[Obj.mapSeq,ef]
noncomputable def slcD:D->D->Option D
 | .lst xs,.lst ys=>if xs.length+ys.length<=1000000 then some (.lst ys) else none
 | _,_=>none
noncomputable def sSlc (fe:FE) (i:Nat):FS:=fun st=>(fe st).bind fun x=>(esc x.1 x.2).bind fun y=>(y.2[i]?).bind fun s=>(s.ow).bind fun z=>(slcD z y.1).bind fun z'=>some (.nx (y.2.set i (s.put z')))
theorem rs_slc {te:TE} {fe:FE} {i:Nat} (he:RdE K te fe):RdS K (tAsg te (gSlc (tVar i))) (sSlc fe i):=by
 intro st σ H O Z Dn E o e q;obtain⟨⟨r,st1⟩,e1,e⟩:=Option.bind_eq_some_iff.mp e;obtain⟨⟨dv,st2⟩,e2,e⟩:=Option.bind_eq_some_iff.mp e;obtain⟨s,e3,e⟩:=Option.bind_eq_some_iff.mp e;obtain⟨x,e4,e⟩:=Option.bind_eq_some_iff.mp e;obtain⟨x',e5,e⟩:=Option.bind_eq_some_iff.mp e;cases e;refine he st σ H O Z _ E r st1 e1 fun v H1 O1 x1 k1 E1 rv w1=>?_;obtain⟨O2,x2,k2,E2,da⟩:=rv.esc E1 e2;obtain⟨p,g1,g2,g3⟩:=E2.own i s x e3 e4;refine⟨.ref p,g1,?_⟩;cases x with
 | lst xs =>
  cases dv with
  | lst ys =>
   by_cases c:xs.length+ys.length<=1000000
   ·simp only[slcD,if_pos c]at e5;cases e5;obtain⟨ws,h1,h2⟩:=g3;cases da with
    | @lst m us _ n0 n1 n2 n3 =>
     have hne:p≠m:=fun z=>n0 (.inl (by rw[← z];exact g2))
     refine⟨p,m,ws,us,rfl,rfl,hne,h1,n1,by rw[h2.1,n2];exact c,?_⟩
     obtain⟨E4,x4,k4⟩:=E2.write (o:=.lst us) e3 e4 g1 (y:=.lst ys) ⟨us,upd_same,(El.upd (K:=K) (Y:=U O2 Z) ⟨n2,n3⟩ (.inl g2))⟩;exact q σ _ O2 ((x1.trans x2).trans x4) ((k1.trans k2).trans k4).kq E4
   ·simp only[slcD,if_neg c]at e5;cases e5
  | _=>cases e5
 | _=>cases dv<;>cases e5
end
end VF22
namespace VF22
open PySem L2 VF
inductive Hard:D->Prop where
 | non:Hard .non
 | bl (b:Bool):Hard (.bl b)
 | int (i:Int):Hard (.int i)
 | str (x:Str):Hard (.str x)
 | ty (n:String):Hard (.ty n)
 | tup {ds:List D}:(∀d∈ds,Hard d)->Hard (.tup ds)
noncomputable def HardZ (z:Rz):Prop:=(z.2=false/\Hard z.1)∨(z.2=true/\∃ds,z.1=.lst ds/\∀d∈ds,Hard d)
section
variable {K:PySem.W.Frag} {Y Y' O O' O1 O2 Z:AS} {H H' H1 H2:Hp} {v:V} {d:D} {vs:List V} {ds:List D} {a p:Addr} {st st' st1 st2:En} {σ σ':L2.St}
theorem DA.hard (h:DA K Y H v d) (hd:Hard d) (lv:∀p,Y' p->Lv H p):DA K Y' H v d:=by
 induction h with
 | non=>exact .non
 | bl b=>exact .bl b
 | int i=>exact .int i
 | str x=>exact .str x
 | tup h1 h2 _ ih =>
  cases hd with
  | tup hd=>exact .tup ⟨h1.1,fun z=>(lv _ z).2 _ h1.1⟩ h2 fun i v d e1 e2=>ih i v d e1 e2 (hd d (List.mem_of_getElem? e2))
 | ty n=>exact .ty n
 | _=>cases hd
theorem RES.hard {z:Rz} (h:RES K (fun _=>False) H H' v z) (hz:HardZ z) (s:Same H H') (lv:∀p,Y p->Lv H p):RES K Y H H' v z:=by
 have lv':∀p,Y p->Lv H' p:=fun p hp=>(lv p hp).same fun o e=>s p o e;obtain⟨d,fr⟩:=z;rcases hz with⟨rfl,hz⟩|⟨rfl,ds,rfl,hz⟩
 ·exact DA.hard (show DA K (fun _=>False) H' v d from h) hz lv'
 ·obtain⟨p,rfl,hp,ho⟩:=h;have lp:=ho.lv;obtain⟨ws,h1,h2⟩:=ho;exact⟨p,rfl,hp,ws,h1,h2.1,fun i v d e1 e2=>DA.hard (h2.2 i v d e1 e2) (hz d (List.mem_of_getElem? e2)) fun q hq=>hq.elim (fun e=>by rw[e];exact lp) (lv' q)⟩
open Classical in
noncomputable def fCallP (g:List D->Option Rz) (fa:FA):FE:=fun st=>(fa st).bind fun x=>(contAll x.2 x.1).bind fun ds=>(g ds).bind fun z=>if HardZ z then some (mk z,x.2) else none
theorem rd_callP {g:List D->Option Rz} {ta:TA} {fa:FA} (ha:RdA K ta fa):RdE K (tDef (spV K g) ta) (fCallP g fa):=by
 intro st σ H O Z Q E r0 st' h q;obtain⟨⟨rs,st1⟩,e1,h⟩:=Option.bind_eq_some_iff.mp h;obtain⟨ds,e2,h⟩:=Option.bind_eq_some_iff.mp h;obtain⟨z,e3,h⟩:=Option.bind_eq_some_iff.mp h;by_cases hc:HardZ z
 ·rw[if_pos hc]at h;cases h;refine ha st σ H O Z _ E rs _ e1 fun vs H1 O1 x1 k1 E1 rvs=>?_;refine⟨fun _=>False,ds,z,rvs.el0 E1 e2,fun p z=>z.elim,e3,fun v H3 s hres=>?_⟩;have hres':=RES.hard (Y:=U O1 Z) hres hc s E1.liv;obtain⟨E3,rv3⟩:=hres'.rv E1 s;exact q v H3 O1 (x1.trans (Same.ext s)) k1 E3 rv3 (hres'.fsh.back x1)
 ·rw[if_neg hc]at h;cases h
theorem callP_ev {st s1:En} {rs:List Rs} {ds:List D} {z:Rz} {r:Rs} {fr:FA} {b:List D->Option Rz} (h1:fr st=some (rs,s1)) (h2:contAll s1 rs=some ds) (h3:b ds=some z) (h4:HardZ z) (hz:mk z=r:=by rfl):fCallP b fr st=some (r,s1):=by
 simp only[fCallP,h1,h2,h3,Option.bind_some];rw[if_pos h4,hz]
end
end VF22
namespace VF22
open PySem PySem.Spec PyProof.Rows L2 VF
noncomputable def Itw (K:PySem.W.Frag) (a:Addr) (xs:List V):It:=⟨fun i H=>SqL K H a xs/\i<xs.length,fun i H v H'=>H'=H/\xs.reverse[i]?=some v,fun i _=>xs.length<=i⟩
theorem turn_rw {P:Program} {w:World} {K:PySem.W.Frag} {tg:Expr} (a it:Addr) (xs:List V):Turn P w K tg (Itw K a xs) [it] it (fun i h=>h.IsRevIter it a ((xs.length:Int)-1-(i:Nat))/\i<=xs.length) where
 mem:=by simp
 obj:=fun i h st b hb=>by
  have e:b=it:=by simpa using hb
  subst e;obtain⟨⟨o,e,c,d⟩,_⟩:=st;exact⟨o,e,fun v z=>by rw[d]at z;cases z⟩
 keep:=fun i h h' st k=>⟨st.1.at fun o e=>k it (by simp) o e,st.2⟩
 item:=by
  intro X hP hw hK hc i pins s σ H E I hf st hg;subst hP hw hK;obtain⟨f0,f1,f2,f3,f4,f5⟩:=hf it (by simp)
  obtain⟨hq,hi⟩:=hg;obtain⟨its,rv,p,hz⟩:=I.list hq;have hl:=rv.length;have e1:((xs.length:Int)-1-(i:Nat))=((xs.length-1-i:Nat):Int):=by omega
  have st:=st.1;rw[e1]at st;have hx:xs.reverse[i]?=some (xs[xs.length-1-i]'(by omega)):=by rw[List.getElem?_reverse hi,List.getElem?_eq_getElem (by omega)]
  obtain⟨u,hu,ru⟩:=rv.get (List.getElem?_eq_getElem (show xs.length-1-i<xs.length by omega))
  refine wpAny_pyNext_rev_item st p.isList (x:=u) (by simpa using hu) fun h' st' sb=>?_
  have I1:L2.Inv X pins σ H { s with heap:=h' }:=I.turned (t':=s.toks) (fun b o hb e=>sb.extBut b o hb e) f0 f1 f3 f4 f5;obtain⟨o,e,c,d⟩:=id st';have e2:(((xs.length-1-i:Nat):Int)-1)=((xs.length:Int)-1-((i+1:Nat):Int)):=by omega
  rw[e2]at st';exact⟨u,rfl,go_of (s:={ s with heap:=h' }) e c d (by decide) ⟨_,H,I1,ru,⟨rfl,hx⟩,⟨st',hi⟩,fun b hb=>(hf b hb).1⟩⟩
 done:=by
  intro X hP hw hK hc i pins s σ H E I hf st hg;subst hP hw hK;obtain⟨f0,f1,f2,f3,f4,f5⟩:=hf it (by simp)
  have hg':xs.length<=i:=hg;obtain⟨st,hi⟩:=st;have e1:((xs.length:Int)-1-(i:Nat))=-1:=by omega
  rw[e1]at st;exact wpAny_pyNext_rev_end (I.ok.hd hc) st fun h' eb=>⟨rfl,I.turned (t':=s.toks) (fun b o hb e=>eb b o hb e) f0 f1 f3 f4 f5⟩
 self:=fun _ _ _ _ _ st h=>wpAny_pyIter_revIter st.1 h
section
variable {X:Cx} {K:PySem.W.Frag}
noncomputable def iRevL (K:PySem.W.Frag) (ta:TA):TI:=fun σ H R=>ta σ H fun vs H1=>∃a xs,vs=[.ref a]/\SqL K H1 a xs/\R (Itw K a xs) H1
theorem pi_revL {tg a:Expr} {te:TE} {p pos:Pos} (h:X.K=K) (hg:Gl X "reversed") (hs:starEach [a] X.env=[(false,eval a X.env)]) (hm:X.mg "reversed"=none) (ha:PE X a te):PI X tg (.Call (.Name "reversed" p) [a] [] pos) (iRevL K (tCons te tNil)):=by
 subst h;intro pins s σ H R I h;refine Call_ (ld_blt I hg hm VF.boot_reversed (PyProof.Rows.callWith_type1 (thn (pa_cons ha rJ hs pos pins s σ H _ I h) fun us s1 ⟨vs,H1,I1,r1,q1⟩=>?_) hs rfl));obtain⟨b,xs,e,hq,q⟩:=q1;subst e;cases r1 with
 | cons r rr =>
  cases rr;cases r;obtain⟨its,rv,pt,hz⟩:=I1.list hq;have hl:=rv.length;refine call_reversed_list pt.isList ?_;have I2:L2.Inv X pins σ H1 { s1 with heap:=s1.heap.push (revObj b ((its.toArray.size:Int)-1)) }:=I1.kept (t':=s1.toks) fun c o e=>Heap.get?_push_of_some _ e;have st:(s1.heap.push (revObj b ((its.toArray.size:Int)-1))).IsRevIter s1.heap.objs.size b ((xs.length:Int)-1-((0:Nat):Int)):=by
   refine⟨_,Heap.get?_push_size _ rfl,rfl,?_⟩;show Data.fields #[.ref b,rawInt ((its.toArray.size:Int)-1)]=_;rw[List.size_toArray,← hl];simp
  refine wpAny_pyIter_revIter (s:={ s1 with heap:=s1.heap.push (revObj b ((its.toArray.size:Int)-1)) }) st ⟨s1.heap.objs.size,[s1.heap.objs.size],_,_,H1,rfl,I2,turn_rw b _ xs,⟨st,Nat.zero_le _⟩,fun c hc=>?_,q⟩;have e:c=s1.heap.objs.size:=by simpa using hc
  subst e;exact I1.fpOk (Nat.le_refl _) (I1.hok.fresh (Nat.le_refl _))
noncomputable def lstD:D->Option (List D)
 | .lst ds=>some ds
 | _=>none
noncomputable def fIRvL (fe:FE):FI:=fun st=>(fe st).bind fun x=>(esc x.1 x.2).bind fun y=>(lstD y.1).bind fun ds=>some (ds.reverse,y.2)
theorem ri_revL {te:TE} {fe:FE} (h:RdE K te fe):RdI K (iRevL K (tCons te tNil)) (fIRvL fe):=by
 intro st σ H O Z R E items st' e q;obtain⟨⟨r,st1⟩,e1,e⟩:=Option.bind_eq_some_iff.mp e;obtain⟨⟨d,st2⟩,e2,e⟩:=Option.bind_eq_some_iff.mp e;obtain⟨ds,e3,e⟩:=Option.bind_eq_some_iff.mp e;cases e;refine h st σ H O Z _ E r st1 e1 fun v H1 O1 x1 k1 E1 rv w1=>?_;obtain⟨O2,x2,k2,E2,da⟩:=rv.esc E1 e2;cases d with
 | lst ds' =>
  cases e3;cases da with
  | @lst a vs _ h0 h1 h2 h3 =>
   refine⟨a,vs,rfl,.inl (.inl h1),q _ H1 O2 (x1.trans x2) (k1.trans k2) E2 fun H' O' ex _=>?_⟩;have g1:H' a=some (.lst vs):=ex.kp a _ h1 fun z=>h0 (.inl z);have el':El K (U O' Z) H' vs ds:=El.ext ⟨h2,h3⟩ ex;refine⟨fun i hi=>?_,fun i d hd=>?_⟩
   ·show vs.length<=i;rw[List.length_reverse]at hi;omega
   ·have hi:i<vs.length:=by
     have:=(List.getElem?_eq_some_iff.mp hd).1;rw[List.length_reverse]at this;omega
    refine⟨⟨.inl (.inl g1),hi⟩,fun x H'' hx=>?_⟩;obtain⟨rfl,hx⟩:=hx;exact⟨Same.refl _,el'.rev.2 i x d hx hd⟩
 | _=>cases e3
theorem pi_listK {tg l:Expr} {tl:TE} (h:X.K=K) (hl:PE X l tl):PI X tg l (iList K tl):=by subst h;exact pi_list hl
end
end VF22
namespace VF22
open PySem PySem.Spec PyProof.Rows L2 VF
section
variable {X:Cx} {K:PySem.W.Frag}
@[irreducible] def PAi (X:Cx) (es:List Expr) (t:TA):Prop:=PA X es t
theorem pai_nil:PAi X [] tNil:=by unfold PAi;exact rJ
theorem pai_c {e:Expr} {es:List Expr} {te:TE} {t:TA} (ha:PE X e te) (hr:PAi X es t) (h:noStar e=true):PAi X (e::es) (tCons te t):=by
 unfold PAi at *;exact pa_c ha hr h
theorem pe_lsti {es:List Expr} {t:TA} {pos:Pos} (h:PAi X es t):PE X (.List es pos) (tLst t):=by
 unfold PAi at h;exact pe_lst h
@[irreducible] def PEi (X:Cx) (e:Expr) (t:TE):Prop:=PE X e t
@[irreducible] def PSi (X:Cx) (e:Stmt) (t:L2.TS):Prop:=PS X e t
@[irreducible] def PSsi (X:Cx) (es:List Stmt) (t:L2.TS):Prop:=PSs X es t
theorem pei_lst {es:List Expr} {t:TA} {pos:Pos} (h:PAi X es t):PEi X (.List es pos) (tLst t):=by
 unfold PEi;exact pe_lsti h
theorem pei_ix {r:R2} {a b:Expr} {ta tb:TE} {pos:Pos} (hr:IxR X r) (ha:PEi X a ta) (hb:PE X b tb) (hs:PlainIx b):PEi X (.Subscript a b pos) (tOp r ta tb):=by
 unfold PEi at *;exact pe_ix hr ha hb hs
theorem pai_ci {e:Expr} {es:List Expr} {te:TE} {t:TA} (ha:PEi X e te) (hr:PAi X es t) (h:noStar e=true):PAi X (e::es) (tCons te t):=by
 unfold PEi at ha;exact pai_c ha hr h
theorem pssi_one {st:Stmt} {t:L2.TS} (h:PSi X st t):PSsi X [st] t:=by
 unfold PSi PSsi at *;exact rY h
noncomputable def fIOw (i:Nat):FI:=fun st=>match st[i]? with
 | some (.o (.lst ds))=>some (ds,st)
 | _=>none
theorem ri_ow {i:Nat} {caps:List Nat} (hi:i∉caps):RdIC K caps (iList K (tVar i)) (fIOw i):=by
 intro st σ H O Z R E items st' e q;unfold fIOw at e;split at e
 ·rename_i ds e1
  cases e;obtain⟨p,g1,g2,vs,g3,g4⟩:=E.own i _ _ e1 rfl;refine⟨.ref p,g1,p,rfl,⟨vs,.inl (.inl g3)⟩,q _ H O (Ext.refl _ _) (Kp.refl _) E fun H' Oi x lv=>?_⟩;have np:¬ Ob caps st σ p:=fun⟨j,hj,s,d,h1,h2,h3⟩=>hi (by rw[E.uni i j _ s _ d p e1 rfl h1 h2 g1 h3];exact hj)
  have hp:H' p=some (.lst vs):=x.kp p _ g3 np;have sq:SqL K H' p vs:=.inl (.inl hp);have el:El K (U (Oo caps st σ O Oi) Z) H' vs items:=g4.go (fun b o e n=>x.kp b o e fun z=>n (.inl (Ob.o E z))) fun b z=>by
   rcases z with(z|z)|z
   ·exact(x.nw b z).elim (fun y=>.inl (.inl (Ob.o E y))) .inr
   ·exact .inl (.inl z.1)
   ·exact .inl (.inr z)
  have hl:=el.1;refine⟨fun k hk=>⟨vs,sq,by omega⟩,fun k d hd=>?_⟩
  obtain⟨v,hv,hdv⟩:=el.at hd;refine⟨⟨vs,v,sq,hv⟩,fun y H'' hy=>?_⟩;obtain⟨rfl,hy⟩:=hy;have ey:=hy vs sq;rw[hv]at ey;cases ey;exact⟨Same.refl _,hdv⟩
 ·cases e
theorem iow_ev {i:Nat} {st:En} {ds:List D} (h:st[i]?=some (.o (.lst ds))):fIOw i st=some (ds,st):=by unfold fIOw;rw[h]
noncomputable def rSum (K:PySem.W.Frag):List V->Hp->VK->Prop:=fun xs H Q=>∃(p:Addr) (ns:List Int),xs=[.ref p]/\SqL K H p (ns.map V.int)/\Q (.int ns.sum) H
theorem ints_of:∀{ns:List Int} {us:List Value},Vals (ns.map V.int) us->IntsAre us ns
 | [],_,h=>by cases h;exact .nil
 | n::ns,_,h=>by
  cases h with
  | cons r t =>
   obtain⟨tk,rfl⟩:=r;exact .cons n tk (ints_of t)
theorem call_sum (hK:X.K=K) (hc:X.calm=true):CallR X (.builtin "sum") (rSum K):=by
 subst hK;intro pins s σ H xs us Q I rv h;obtain⟨p,ns,rfl,hq,q⟩:=h;obtain⟨u,rfl,ru⟩:=vals1 rv;cases ru;obtain⟨its,r,pl,hz⟩:=I.list hq;have hi:=ints_of r;obtain⟨ys,hx⟩:=hi.allInts.items;have hl':s.heap.IsList p (intItems ys):=hx ▸ pl.isList;refine sum_intListG (I.ok.hd hc) hl' fun h' tk t' hk=>?_;have e1:ns=ys.toList.map (·.1):=by
  rw[← nums_intItems,← hx];exact(show numsOf its.toArray.toList=ns from hi.numsOf).symm
 have e2:preSum (numAt ys) ys.size=ns.sum:=by rw[preSum_eq,List.take_of_length_le (by simp),e1]
 rw[e2];exact⟨.int ns.sum,H,I.kept hk,⟨t',rfl⟩,q⟩
noncomputable def asInts:List D->Option (List Int)
 | []=>some []
 | .int i::r=>(asInts r).bind fun is=>some (i::is)
 | _=>none
theorem asInts_el {Y:AS} {H:Hp}:∀{ds:List D} {vs:List V} {ns:List Int},El K Y H vs ds->asInts ds=some ns->vs=ns.map V.int
 | [],vs,ns,el,e=>by cases e;exact el.unnil
 | d::r,vs,ns,el,e=>by
  obtain⟨v,t,rfl,da,el2⟩:=el.uncons;cases d with
  | int b =>
   obtain⟨xs',e1,e⟩:=Option.bind_eq_some_iff.mp e;cases e;have h:=asInts_el el2 e1;rw[h,show v=V.int b from da.ba];rfl
  | _=>cases e
noncomputable def bSum:List D->Option Rz
 | [.lst ds]=>(asInts ds).bind fun ns=>some (.int ns.sum,false)
 | _=>none
theorem rc_sum:RdCB K (rSum K) bSum:=by
 intro Y H xs ds z Q lv bs e q;cases bs with
 | nil=>cases e
 | @cons v vs d ds b1 bs =>
  cases bs with
  | cons _ _=>cases d<;>cases e
  | nil =>
   cases d with
   | lst a =>
    obtain⟨ns,e1,e⟩:=Option.bind_eq_some_iff.mp e;cases e;obtain⟨p,xs,rfl,hp,el⟩:=b1;obtain rfl:=asInts_el el e1;exact⟨p,ns,rfl,.inl (.inl hp),q _ H (Same.refl H) (.int _)⟩
   | _=>cases e
theorem sum_ev (ns:List Int):bSum [.lst (ns.map D.int)]=some (.int ns.sum,false):=by
 have:∀l:List Int,asInts (l.map D.int)=some l:=fun l=>by
  induction l with
  | nil=>rfl
  | cons a l ih =>
   show(asInts (l.map D.int)).bind (fun is=>some (a::is))=_;rw[ih];rfl
 show(asInts (ns.map D.int)).bind (fun ns=>some (D.int ns.sum,false))=_;rw[this];rfl
end
end VF22
namespace K43
open PySem L2 VF VF22
noncomputable section
noncomputable def B_spans_from_1:FS :=
  (sSeq (sSet (fCB (b2 gMin) (rZ (fVar 3) (rZ (fCB (b1 gAbs) (rZ (fOp bIx (fVar 0) (fVar 5)) fNil)) fNil))) 3)
  (sSeq (sSet (fCB (b2 gMax) (rZ (fVar 4) (rZ (fCB (b1 gAbs) (rZ (fOp bIx (fVar 0) (fVar 5)) fNil)) fNil))) 4)
  (sSeq (sSet (fOp bEqD (fOp bSub (fVar 4) (fVar 3)) (fOp bSub (fVar 5) (fVar 1))) 6)
  (sIf (fAndT (fTest (fVar 6)) (fTest (fOp bInD (fTup (rZ (fOp bIx (fVar 0) (fVar 1)) (rZ (fOp bIx (fVar 0) (fVar 5)) fNil))) (fTup (rZ (fTup (rZ (fVar 3) (rZ (fVar 4) fNil))) (rZ (fTup (rZ (fUn uNeg (fVar 4)) (rZ (fUn uNeg (fVar 3)) fNil))) fNil)))))) (sDrop (fM isL mAppend 2 (rZ (fTup (rZ (fVar 1) (rZ (fVar 5) fNil))) fNil))) sNext))))
noncomputable def F_spans_from:FS :=
  (sSeq (sSet (fLst fNil) 2)
  (sSeq (sSet (fCB (b1 gAbs) (rZ (fOp bIx (fVar 0) (fVar 1)) fNil)) 3)
  (sSeq (sSet (fVar 3) 4)
  (sSeq (sFor (fIR2 (rZ (fOp bAdd (fVar 1) (fC (.int 1))) (rZ (fCB bLen (rZ (fVar 0) fNil)) fNil))) (gN 5) B_spans_from_1)
  (sRet (fVar 2))))))
noncomputable def G_spans_from:List D->Option Rz:=bodyV F_spans_from 7 2
noncomputable def B_spans_of_1:FS :=
  (sPut bSetD (fC (.bl true)) 1 (fVar 3))
noncomputable def B_spans_of_2:FS :=
  (sFor (fIA (fCall G_spans_from (rZ (fVar 0) (rZ (fVar 2) fNil)))) (gN 3) B_spans_of_1)
noncomputable def F_spans_of:FS :=
  (sSeq (sSet (fDNew (.dt [])) 1)
  (sSeq (sFor (fIR1 (rZ (fCB bLen (rZ (fVar 0) fNil)) fNil)) (gN 2) B_spans_of_2)
  (sRet (fVar 1))))
noncomputable def G_spans_of:List D->Option Rz:=bodyV F_spans_of 4 1
noncomputable def E_falls_apart_1:FE :=
  (fAndV (fOp (bDIn false) (fTup (rZ (fOp bIx (fVar 2) (fC (.int 0))) (rZ (fVar 0) fNil))) (fVar 1)) (fOp (bDIn false) (fTup (rZ (fVar 0) (rZ (fOp bIx (fVar 2) (fC (.int 1))) fNil))) (fVar 1)))
noncomputable def F_falls_apart:FS :=
  (sRet (fCB bAny (rZ (fComp 1 [1,0] (fIR2 (rZ (fOp bAdd (fOp bIx (fVar 0) (fC (.int 0))) (fC (.int 1))) (rZ (fOp bIx (fVar 0) (fC (.int 1))) fNil))) (gN 0) fYes E_falls_apart_1) fNil)))
noncomputable def G_falls_apart:List D->Option Rz:=bodyV F_falls_apart 2 2
noncomputable def C_whole_spans_1:FT :=
  (fNotT (fTest (fCallS G_falls_apart (rZ (fVar 0) (rZ (fVar 1) fNil)))))
noncomputable def E_whole_spans_1:FE :=
  (fVar 0)
noncomputable def F_whole_spans:FS :=
  (sSeq (sSet (fCall G_spans_of (rZ (fVar 0) fNil)) 1)
  (sRet (fComp 1 [1] (fIA (fCB bSortT (rZ (fVar 1) fNil))) (gN 0) C_whole_spans_1 E_whole_spans_1)))
noncomputable def G_whole_spans:List D->Option Rz:=bodyV F_whole_spans 2 1
noncomputable def F_within:FS :=
  (sRet (fAndV (fOp bNeD (fVar 0) (fVar 1)) (fAndV (fOp bLe (fOp bIx (fVar 1) (fC (.int 0))) (fOp bIx (fVar 0) (fC (.int 0)))) (fOp bLe (fOp bIx (fVar 0) (fC (.int 1))) (fOp bIx (fVar 1) (fC (.int 1)))))))
noncomputable def G_within:List D->Option Rz:=bodyV F_within 2 2
noncomputable def F_points_in:FS :=
  (sRet (fLR2 (rZ (fOp bIx (fVar 0) (fC (.int 0))) (rZ (fOp bIx (fVar 0) (fC (.int 1))) fNil))))
noncomputable def G_points_in:List D->Option Rz:=bodyV F_points_in 1 1
noncomputable def B_own_of_1:FS :=
  (sPut bSetD (fC (.bl true)) 2 (fVar 4))
noncomputable def B_own_of_2:FS :=
  (sIf (fTest (fCallS G_within (rZ (fVar 3) (rZ (fVar 0) fNil)))) (sFor (fIA (fCall G_points_in (rZ (fVar 3) fNil))) (gN 4) B_own_of_1) sNext)
noncomputable def C_own_of_1:FT :=
  (fTest (fOp (bDIn true) (fVar 0) (fVar 1)))
noncomputable def E_own_of_1:FE :=
  (fVar 0)
noncomputable def F_own_of:FS :=
  (sSeq (sSet (fDNew (.dk [])) 2)
  (sSeq (sFor (fIA (fVar 1)) (gN 3) B_own_of_2)
  (sRet (fComp 1 [2] (fIA (fCall G_points_in (rZ (fVar 0) fNil))) (gN 0) C_own_of_1 E_own_of_1))))
noncomputable def G_own_of:List D->Option Rz:=bodyV F_own_of 5 2
noncomputable def B_own_points_1:FS :=
  (sPut bSetD (fCall G_own_of (rZ (fVar 3) (rZ (fVar 1) fNil))) 2 (fVar 3))
noncomputable def F_own_points:FS :=
  (sSeq (sSet (fCall G_whole_spans (rZ (fVar 0) fNil)) 1)
  (sSeq (sSet (fDNew (.dt [])) 2)
  (sSeq (sFor (fIA (fVar 1)) (gN 3) B_own_points_1)
  (sRet (fVar 2)))))
noncomputable def G_own_points:List D->Option Rz:=bodyV F_own_points 4 1
noncomputable def F_is_at_rest:FS :=
  (sRet (fOp bEqD (fOp bIx (fVar 0) (fOp bAdd (fVar 1) (fC (.int 1)))) (fOp bAdd (fOp bIx (fVar 0) (fVar 1)) (fC (.int 1)))))
noncomputable def G_is_at_rest:List D->Option Rz:=bodyV F_is_at_rest 2 2
noncomputable def B_one_sided_1:FS :=
  (sDrop (fM isL mExtend 2 (rZ (fLst (rZ (fOp bLt (fOp bIx (fVar 0) (fVar 3)) (fC (.int 0))) (rZ (fOp bLt (fOp bIx (fVar 0) (fOp bAdd (fVar 3) (fC (.int 1)))) (fC (.int 0))) fNil))) fNil)))
noncomputable def F_one_sided:FS :=
  (sSeq (sSet (fLst fNil) 2)
  (sSeq (sFor (fIA (fVar 1)) (gN 3) B_one_sided_1)
  (sRet (fOrV (fCB bAll (rZ (fVar 2) fNil)) (fNotV (fCB bAny (rZ (fVar 2) fNil)))))))
noncomputable def G_one_sided:List D->Option Rz:=bodyV F_one_sided 4 2
noncomputable def E_is_knot_1:FE :=
  (fCallS G_is_at_rest (rZ (fVar 1) (rZ (fVar 0) fNil)))
noncomputable def F_is_knot:FS :=
  (sRet (fAndV (fNotV (fCB bAll (rZ (fComp 1 [0] (fIA (fVar 1)) (gN 0) fYes E_is_knot_1) fNil))) (fCallS G_one_sided (rZ (fVar 0) (rZ (fVar 1) fNil)))))
noncomputable def G_is_knot:List D->Option Rz:=bodyV F_is_knot 2 2
noncomputable def C_knots_of_1:FT :=
  (fTest (fCallS G_is_knot (rZ (fVar 1) (rZ (fOp bDGet (fVar 2) (fVar 0)) fNil))))
noncomputable def E_knots_of_1:FE :=
  (fVar 0)
noncomputable def F_knots_of:FS :=
  (sSeq (sSet (fCall G_own_points (rZ (fVar 0) fNil)) 1)
  (sRet (fComp 1 [0,1] (fIA (fCB bSortT (rZ (fVar 1) fNil))) (gN 0) C_knots_of_1 E_knots_of_1)))
noncomputable def G_knots_of:List D->Option Rz:=bodyV F_knots_of 2 1
noncomputable def F_law_deal:FS :=
  (sSeq (sSet (fOp bAdd (fOp bMul (fC (.int 7919)) (fVar 1)) (fC (.int 1000003))) 2)
  (sSeq (sIf (fTest (fOp bLt (fVar 1) (fCB bLen (rZ (fVar 0) fNil)))) (sSet (fOp bIx (fVar 0) (fVar 1)) 2) (sIf (fTest (fOp bGt (fCB bLen (rZ (fVar 0) fNil)) (fC (.int 0)))) (sSet (fOp bAdd (fOp bMul (fOp bMod (fOp bIx (fVar 0) (fOp bMod (fVar 1) (fCB bLen (rZ (fVar 0) fNil)))) (fC (.int 2147483629))) (fC (.int 31))) (fOp bMul (fC (.int 7919)) (fVar 1))) 2) sNext))
  (sSeq (sSet (fC (.int 0)) 3)
  (sSeq (sIf (fTest (fOp bGe (fVar 2) (fOp bPow (fC (.int 10)) (fC (.int 18))))) (sSet (fVar 2) 3) sNext)
  (sRet (fLst (rZ (fVar 3) (rZ (fOp bAdd (fOp bMod (fOp bAdd (fOp bMul (fOp bMod (fVar 2) (fC (.int 2147483629))) (fC (.int 48271))) (fOp bMul (fC (.int 40692)) (fVar 1))) (fC (.int 2147483646))) (fC (.int 1))) fNil))))))))
noncomputable def G_law_deal:List D->Option Rz:=bodyV F_law_deal 4 2
noncomputable def F_law_draw:FS :=
  (sSeq (sIf (fTest (fOp bGt (fOp bIx (fVar 0) (fC (.int 0))) (fC (.int 0)))) (sSeq (sSet (fOp bMod (fOp bIx (fVar 0) (fC (.int 0))) (fVar 1)) 2)
  (sSeq (sPut bSetL (fOp bDiv (fOp bIx (fVar 0) (fC (.int 0))) (fVar 1)) 0 (fC (.int 0)))
  (sRet (fVar 2)))) sNext)
  (sSeq (sSet (fOp bMod (fOp bMul (fOp bIx (fVar 0) (fC (.int 1))) (fC (.int 16807))) (fC (.int 2147483647))) 3)
  (sSeq (sPut bSetL (fOp bAdd (fOp bMod (fOp bAdd (fOp bMul (fVar 3) (fC (.int 48271))) (fC (.int 30103))) (fC (.int 2147483646))) (fC (.int 1))) 0 (fC (.int 1)))
  (sRet (fOp bMod (fOp bAdd (fOp bMul (fOp bMod (fOp bMul (fVar 3) (fVar 3)) (fC (.int 2147483629))) (fC (.int 2147483563))) (fOp bDiv (fOp bIx (fVar 0) (fC (.int 1))) (fC (.int 127)))) (fVar 1))))))
noncomputable def G_law_draw:D->List D->Option (Rz×D):=bodyIO F_law_draw 4 2
noncomputable def F_law_farther:FS :=
  (sSeq (sIf (fTest (fOp bLt (fVar 0) (fC (.int 0)))) (sRet (fOp bSub (fVar 0) (fVar 1))) sNext)
  (sRet (fOp bAdd (fVar 0) (fVar 1))))
noncomputable def G_law_farther:List D->Option Rz:=bodyV F_law_farther 2 2
noncomputable def E_law_put_in_1:FE :=
  (fCallS G_law_farther (rZ (fVar 0) (rZ (fVar 1) fNil)))
noncomputable def E_law_put_in_2:FE :=
  (fOp bSub (fC (.int 0)) (fCallS G_law_farther (rZ (fVar 0) (rZ (fOp bSub (fC (.int 0)) (fVar 1)) fNil))))
noncomputable def B_law_put_in_1:FS :=
  (sIf (fTest (fOp bGt (fCB (b1 gAbs) (rZ (fVar 5) fNil)) (fCB (b1 gAbs) (rZ (fVar 3) fNil)))) (sDrop (fM isL mAppend 4 (rZ (fCallS G_law_farther (rZ (fVar 5) (rZ (fOp bIx (fVar 2) (fUn uNeg (fC (.int 1)))) fNil))) fNil))) (sIf (fTest (fOp bNe (fVar 5) (fVar 3))) (sDrop (fM isL mAppend 4 (rZ (fVar 5) fNil))) (sIf (fTest (fOp bGe (fVar 3) (fC (.int 0)))) (sDrop (fM isL mExtend 4 (rZ (fComp 1 [3] (fIA (fVar 2)) (gN 0) fYes E_law_put_in_1) fNil))) (sDrop (fM isL mExtend 4 (rZ (fComp 1 [3] (fIRvL (fVar 2)) (gN 0) fYes E_law_put_in_2) fNil))))))
noncomputable def F_law_put_in:FS :=
  (sSeq (sSet (fOp bIx (fVar 0) (fVar 1)) 3)
  (sSeq (sSet (fLst fNil) 4)
  (sSeq (sFor (fIA (fVar 0)) (gN 5) B_law_put_in_1)
  (sRet (fVar 4)))))
noncomputable def G_law_put_in:List D->Option Rz:=bodyV F_law_put_in 6 3
noncomputable def B_law_block_1:FS :=
  (sDrop (fM isL mAppend 5 (rZ (fOp bMul (fM isL mPopAt 3 (rZ (fIO G_law_draw 0 (rZ (fCB bLen (rZ (fVar 3) fNil)) fNil)) fNil)) (fOp bIx (fVar 4) (fIO G_law_draw 0 (rZ (fC (.int 2)) fNil)))) fNil)))
noncomputable def F_law_block:FS :=
  (sSeq (sSet (fOp bAdd (fC (.int 1)) (fIO G_law_draw 0 (rZ (fVar 1) fNil))) 2)
  (sSeq (sSet (fLR2 (rZ (fC (.int 1)) (rZ (fOp bAdd (fVar 2) (fC (.int 1))) fNil))) 3)
  (sSeq (sSet (fLst (rZ (fC (.int 1)) (rZ (fOp bSub (fC (.int 1)) (fOp bMul (fC (.int 2)) (fCB (b1 gInt) (rZ (fOp bEq (fIO G_law_draw 0 (rZ (fC (.int 3)) fNil)) (fC (.int 0))) fNil)))) fNil))) 4)
  (sSeq (sSet (fLst (rZ (fC (.int 0)) fNil)) 5)
  (sSeq (sFor (fIR1 (rZ (fVar 2) fNil)) (gN 6) B_law_block_1)
  (sRet (fOp bAdd (fVar 5) (fLst (rZ (fOp bAdd (fVar 2) (fC (.int 1))) fNil)))))))))
noncomputable def G_law_block:D->List D->Option (Rz×D):=bodyIO F_law_block 7 2
noncomputable def B_law_numbers_1:FS :=
  (sSeq (sSet (fOp bSub (fOp bAdd (fVar 1) (fC (.int 2))) (fCB bLen (rZ (fVar 2) fNil))) 4)
  (sSeq (sSet (fIO G_law_block 0 (rZ (fOp bIx (fLst (rZ (fC (.int 2)) (rZ (fC (.int 4)) (rZ (fVar 1) fNil)))) (fIO G_law_draw 0 (rZ (fC (.int 3)) fNil))) fNil)) 5)
  (sSeq (sSet (fIO G_law_draw 0 (rZ (fCB bLen (rZ (fVar 2) fNil)) fNil)) 6)
  (sIf (fTest (fOp bLe (fOp bSub (fCB bLen (rZ (fVar 5) fNil)) (fC (.int 1))) (fVar 4))) (sSet (fCall G_law_put_in (rZ (fVar 2) (rZ (fVar 6) (rZ (fVar 5) fNil)))) 2) sNext))))
noncomputable def F_law_numbers:FS :=
  (sSeq (sSet (fLst (rZ (fC (.int 0)) (rZ (fC (.int 1)) fNil))) 2)
  (sSeq (sFor (fIR1 (rZ (fOp bAdd (fC (.int 1)) (fIO G_law_draw 0 (rZ (fC (.int 5)) fNil))) fNil)) (gN 3) B_law_numbers_1)
  (sRet (fVar 2))))
noncomputable def G_law_numbers:D->List D->Option (Rz×D):=bodyIO F_law_numbers 7 2
noncomputable def B_law_knotty_1:FS :=
  (sSeq (sSet (fLst (rZ (fC (.int 0)) (rZ (fC (.int 2)) (rZ (fC (.int 1)) (rZ (fC (.int 3)) fNil))))) 4)
  (sSeq (sIf (fAndT (fTest (fOp bLt (fVar 2) (fC (.int 5)))) (fTest (fOp bEq (fIO G_law_draw 0 (rZ (fC (.int 3)) fNil)) (fC (.int 0))))) (sSet (fCall G_law_put_in (rZ (fOp bIx (fLst (rZ (fLst (rZ (fC (.int 0)) (rZ (fUn uNeg (fC (.int 1))) (rZ (fC (.int 2)) fNil)))) (rZ (fLst (rZ (fC (.int 0)) (rZ (fC (.int 1)) (rZ (fC (.int 2)) fNil)))) fNil))) (fIO G_law_draw 0 (rZ (fC (.int 2)) fNil))) (rZ (fIO G_law_draw 0 (rZ (fC (.int 3)) fNil)) (rZ (fVar 4) fNil)))) 4) sNext)
  (sSeq (sSet (fCall G_law_put_in (rZ (fLst (rZ (fC (.int 0)) (rZ (fC (.int 2)) (rZ (fC (.int 1)) (rZ (fC (.int 3)) fNil))))) (rZ (fOp bAdd (fC (.int 1)) (fIO G_law_draw 0 (rZ (fC (.int 2)) fNil))) (rZ (fVar 4) fNil)))) 5)
  (sSet (fCall G_law_put_in (rZ (fVar 1) (rZ (fOp bSub (fCB bLen (rZ (fVar 1) fNil)) (fC (.int 1))) (rZ (fVar 5) fNil)))) 1))))
noncomputable def B_law_knotty_2:FS :=
  (sSeq (sSet (fOp bIx (fLst (rZ (fLst (rZ (fC (.int 0)) (rZ (fC (.int 2)) (rZ (fC (.int 1)) (rZ (fC (.int 3)) fNil))))) (rZ (fLst (rZ (fC (.int 0)) (rZ (fC (.int 2)) (rZ (fC (.int 1)) (rZ (fC (.int 3)) fNil))))) (rZ (fLst (rZ (fC (.int 0)) (rZ (fC (.int 2)) (rZ (fC (.int 1)) (rZ (fC (.int 3)) fNil))))) (rZ (fLst (rZ (fC (.int 0)) (rZ (fUn uNeg (fC (.int 1))) (rZ (fC (.int 2)) fNil)))) (rZ (fLst (rZ (fC (.int 0)) (rZ (fC (.int 3)) (rZ (fC (.int 2)) (rZ (fC (.int 1)) (rZ (fC (.int 4)) fNil)))))) fNil)))))) (fIO G_law_draw 0 (rZ (fC (.int 5)) fNil))) 6)
  (sSet (fCall G_law_put_in (rZ (fVar 1) (rZ (fIO G_law_draw 0 (rZ (fCB bLen (rZ (fVar 1) fNil)) fNil)) (rZ (fVar 6) fNil)))) 1))
noncomputable def F_law_knotty:FS :=
  (sSeq (sSet (fLst (rZ (fC (.int 0)) (rZ (fC (.int 1)) fNil))) 1)
  (sSeq (sIf (fTest (fOp bEq (fIO G_law_draw 0 (rZ (fC (.int 4)) fNil)) (fC (.int 1)))) (sSeq (sSet (fOp bIx (fLst (rZ (fC (.int 3)) (rZ (fC (.int 3)) (rZ (fC (.int 4)) (rZ (fC (.int 5)) fNil))))) (fIO G_law_draw 0 (rZ (fC (.int 4)) fNil))) 2)
  (sFor (fIR1 (rZ (fVar 2) fNil)) (gN 3) B_law_knotty_1)) (sFor (fIR1 (rZ (fOp bAdd (fC (.int 1)) (fIO G_law_draw 0 (rZ (fC (.int 6)) fNil))) fNil)) (gN 3) B_law_knotty_2))
  (sSeq (sIf (fTest (fOp bEq (fIO G_law_draw 0 (rZ (fC (.int 3)) fNil)) (fC (.int 0)))) (sSeq (sSet (fOp bIx (fLst (rZ (fLst (rZ (fC (.int 0)) (rZ (fUn uNeg (fC (.int 1))) (rZ (fC (.int 2)) fNil)))) (rZ (fLst (rZ (fC (.int 0)) (rZ (fC (.int 2)) (rZ (fC (.int 1)) (rZ (fC (.int 3)) fNil))))) (rZ (fLst (rZ (fC (.int 0)) (rZ (fC (.int 1)) (rZ (fC (.int 2)) fNil)))) fNil)))) (fIO G_law_draw 0 (rZ (fC (.int 3)) fNil))) 6)
  (sSet (fCall G_law_put_in (rZ (fVar 1) (rZ (fIO G_law_draw 0 (rZ (fCB bLen (rZ (fVar 1) fNil)) fNil)) (rZ (fVar 6) fNil)))) 1)) sNext)
  (sRet (fVar 1)))))
noncomputable def G_law_knotty:D->List D->Option (Rz×D):=bodyIO F_law_knotty 7 1
noncomputable def E_law_is_span_1:FE :=
  (fCB (b1 gAbs) (rZ (fVar 0) fNil))
noncomputable def F_law_is_span:FS :=
  (sSeq (sSet (fCB bSortD (rZ (fComp 1 [] (fIA (fSl bSl (fVar 0) (oPart (fVar 1)) (oPart (fOp bAdd (fVar 2) (fC (.int 1)))))) (gN 0) fYes E_law_is_span_1) fNil)) 3)
  (sSeq (sIf (fTest (fOp bNeD (fVar 3) (fLR2 (rZ (fOp bIx (fVar 3) (fC (.int 0))) (rZ (fOp bAdd (fOp bSub (fOp bAdd (fOp bIx (fVar 3) (fC (.int 0))) (fVar 2)) (fVar 1)) (fC (.int 1))) fNil))))) (sRet (fC (.bl false))) sNext)
  (sSeq (sIf (fTest (fOp bEqD (fOp bIx (fVar 0) (fVar 1)) (fOp bIx (fVar 3) (fC (.int 0))))) (sRet (fOp bEqD (fOp bIx (fVar 0) (fVar 2)) (fOp bIx (fVar 3) (fUn uNeg (fC (.int 1)))))) sNext)
  (sRet (fAndV (fOp bEqD (fOp bIx (fVar 0) (fVar 1)) (fOp bSub (fC (.int 0)) (fOp bIx (fVar 3) (fUn uNeg (fC (.int 1)))))) (fOp bEqD (fOp bIx (fVar 0) (fVar 2)) (fOp bSub (fC (.int 0)) (fOp bIx (fVar 3) (fC (.int 0))))))))))
noncomputable def G_law_is_span:List D->Option Rz:=bodyV F_law_is_span 4 3
noncomputable def B_law_wholes_1:FS :=
  (sIf (fTest (fCallS G_law_is_span (rZ (fVar 0) (rZ (fVar 2) (rZ (fVar 3) fNil))))) (sPut bSetD (fC (.bl true)) 1 (fTup (rZ (fVar 2) (rZ (fVar 3) fNil)))) sNext)
noncomputable def B_law_wholes_2:FS :=
  (sFor (fIR2 (rZ (fOp bAdd (fVar 2) (fC (.int 1))) (rZ (fCB bLen (rZ (fVar 0) fNil)) fNil))) (gN 3) B_law_wholes_1)
noncomputable def E_law_wholes_1:FE :=
  (fAndV (fOp (bDIn false) (fTup (rZ (fVar 2) (rZ (fVar 0) fNil))) (fVar 1)) (fOp (bDIn false) (fTup (rZ (fVar 0) (rZ (fVar 3) fNil))) (fVar 1)))
noncomputable def B_law_wholes_3:FS :=
  (sIf (fNotT (fTest (fCB bAny (rZ (fComp 1 [1,2,3] (fIR2 (rZ (fOp bAdd (fVar 2) (fC (.int 1))) (rZ (fVar 3) fNil))) (gN 0) fYes E_law_wholes_1) fNil)))) (sDrop (fM isL mAppend 4 (rZ (fTup (rZ (fVar 2) (rZ (fVar 3) fNil))) fNil))) sNext)
noncomputable def F_law_wholes:FS :=
  (sSeq (sSet (fDNew (.dt [])) 1)
  (sSeq (sFor (fIR1 (rZ (fCB bLen (rZ (fVar 0) fNil)) fNil)) (gN 2) B_law_wholes_2)
  (sSeq (sSet (fLst fNil) 4)
  (sSeq (sFor (fID (fVar 1)) (gT 2 (gsC (gN 2) (gsC (gN 3) gsN))) B_law_wholes_3)
  (sRet (fVar 4))))))
noncomputable def G_law_wholes:List D->Option Rz:=bodyV F_law_wholes 5 1
noncomputable def C_law_is_knot_1:FT :=
  (fAndT (fTest (fChN (fOp bIx (fVar 2) (fC (.int 0))) (fChLink bLe (fOp bIx (fVar 0) (fC (.int 0))) (fChLink bLe (fVar 1) (fChLink bLt (fOp bIx (fVar 0) (fC (.int 1))) (fChLast bLe (fOp bIx (fVar 2) (fC (.int 1))))))))) (fTest (fOp bNeD (fVar 0) (fVar 2))))
noncomputable def E_law_is_knot_1:FE :=
  (fVar 0)
noncomputable def B_law_is_knot_1:FS :=
  (sSeq (sSet (fComp 1 [4,2] (fIA (fVar 1)) (gN 0) C_law_is_knot_1 E_law_is_knot_1) 5)
  (sIf (fAndT (fTest (fOp bEqD (fVar 5) (fLst fNil))) (fTest (fOp bNeD (fOp bSub (fOp bIx (fVar 0) (fOp bAdd (fVar 4) (fC (.int 1)))) (fOp bIx (fVar 0) (fVar 4))) (fC (.int 1))))) (sSet (fOp bAdd (fVar 3) (fLst (rZ (fCB (b1 gInt) (rZ (fOp bLt (fOp bIx (fVar 0) (fVar 4)) (fC (.int 0))) fNil)) (rZ (fCB (b1 gInt) (rZ (fOp bLt (fOp bIx (fVar 0) (fOp bAdd (fVar 4) (fC (.int 1)))) (fC (.int 0))) fNil)) fNil)))) 3) sNext))
noncomputable def F_law_is_knot:FS :=
  (sSeq (sSet (fLst fNil) 3)
  (sSeq (sFor (fIR2 (rZ (fOp bIx (fVar 2) (fC (.int 0))) (rZ (fOp bIx (fVar 2) (fC (.int 1))) fNil))) (gN 4) B_law_is_knot_1)
  (sRet (fAndV (fOp bGt (fCB bLen (rZ (fVar 3) fNil)) (fC (.int 0))) (fOp bInD (fCB bSum (rZ (fVar 3) fNil)) (fTup (rZ (fC (.int 0)) (rZ (fCB bLen (rZ (fVar 3) fNil)) fNil))))))))
noncomputable def G_law_is_knot:List D->Option Rz:=bodyV F_law_is_knot 6 3
noncomputable def C_law_right_1:FT :=
  (fTest (fCallS G_law_is_knot (rZ (fVar 1) (rZ (fVar 2) (rZ (fVar 0) fNil)))))
noncomputable def E_law_right_1:FE :=
  (fVar 0)
noncomputable def E_law_right_2:FE :=
  (fCB bIsinst (rZ (fVar 0) (rZ (fC (.ty "tuple")) fNil)))
noncomputable def F_law_right:FS :=
  (sSeq (sSet (fCB bListA (rZ (fVar 0) fNil)) 1)
  (sSeq (sSet (fCall G_law_wholes (rZ (fVar 0) fNil)) 2)
  (sSeq (sSet (fComp 1 [0,2] (fIA (fVar 2)) (gN 0) C_law_right_1 E_law_right_1) 3)
  (sSeq (sSet (fCallP G_knots_of (rZ (fVar 1) fNil)) 4)
  (sSeq (sIf (fOrT (fNotT (fTest (fCB bIsinst (rZ (fVar 4) (rZ (fC (.ty "list")) fNil))))) (fOrT (fTest (fOp bNeD (fVar 4) (fVar 3))) (fTest (fOp bNeD (fVar 1) (fVar 0))))) (sRet (fC (.bl false))) sNext)
  (sSeq (sIf (fNotT (fTest (fCB bAll (rZ (fComp 1 [] (fIOw 4) (gN 0) fYes E_law_right_2) fNil)))) (sRet (fC (.bl false))) sNext)
  (sSeq (sDrop (fM isL mAppend 4 (rZ (fC (.int 0)) fNil)))
  (sSeq (sIf (fTest (fOp bNeD (fCallP G_knots_of (rZ (fVar 1) fNil)) (fVar 3))) (sRet (fC (.bl false))) sNext)
  (sSeq (sSlc (fLR1 (rZ (fCB bLen (rZ (fVar 0) fNil)) fNil)) 1)
  (sRet (fOp bEqD (fCallP G_knots_of (rZ (fVar 1) fNil)) (fLst fNil))))))))))))
noncomputable def G_law_right:List D->Option Rz:=bodyV F_law_right 5 1
noncomputable def E_law_turned_1:FE :=
  (fOp bSub (fC (.int 0)) (fVar 0))
noncomputable def F_law_turned:FS :=
  (sRet (fOp bAdd (fOp bAdd (fSl bSl (fVar 0) oNo (oPart (fOp bAdd (fVar 1) (fC (.int 1))))) (fComp 1 [] (fIRvL (fSl bSl (fVar 0) (oPart (fOp bAdd (fVar 1) (fC (.int 1)))) (oPart (fOp bAdd (fVar 2) (fC (.int 1)))))) (gN 0) fYes E_law_turned_1)) (fSl bSl (fVar 0) (oPart (fOp bAdd (fVar 2) (fC (.int 1)))) oNo)))
noncomputable def G_law_turned:List D->Option Rz:=bodyV F_law_turned 3 3
noncomputable def B_law_1:FS :=
  (sSeq (sSet (fCall G_law_deal (rZ (fVar 0) (rZ (fVar 1) fNil))) 2)
  (sIf (fNotT (fTest (fCallS G_law_right (rZ (fIO G_law_numbers 2 (rZ (fOp bIx (fLst (rZ (fOp bIx (fLst (rZ (fC (.int 16)) (rZ (fC (.int 16)) (rZ (fC (.int 16)) (rZ (fC (.int 40)) fNil))))) (fIO G_law_draw 2 (rZ (fC (.int 4)) fNil))) (rZ (fC (.int 8)) fNil))) (fVar 1)) fNil)) fNil)))) (sRet (fC (.bl false))) sNext))
noncomputable def F_law:FS :=
  (sSeq (sFor (fIR1 (rZ (fC (.int 2)) fNil)) (gN 1) B_law_1)
  (sSeq (sSet (fCall G_law_deal (rZ (fVar 0) (rZ (fC (.int 2)) fNil))) 2)
  (sSeq (sSet (fIO G_law_knotty 2 fNil) 3)
  (sSeq (sSet (fIO G_law_draw 2 (rZ (fOp bSub (fCB bLen (rZ (fVar 3) fNil)) (fC (.int 1))) fNil)) 4)
  (sSeq (sSet (fIO G_law_draw 2 (rZ (fOp bSub (fCB bLen (rZ (fVar 3) fNil)) (fC (.int 1))) fNil)) 5)
  (sRet (fAndV (fCallS G_law_right (rZ (fVar 3) fNil)) (fCallS G_law_right (rZ (fCall G_law_turned (rZ (fVar 3) (rZ (fCB (b2 gMin) (rZ (fVar 4) (rZ (fVar 5) fNil))) (rZ (fCB (b2 gMax) (rZ (fVar 4) (rZ (fVar 5) fNil))) fNil)))) fNil)))))))))
noncomputable def G_law:List D->Option Rz:=bodyV F_law 6 1
end
end K43
namespace K43
open PySem L2 VF VF22
noncomputable def top (i:Nat):Stmt:=PySem.Challenge.pw_strandwright_k43_knots.main.body.getD i (.Pass ⟨0,0,0,0⟩)
noncomputable abbrev sspansfrom:Stmt:=top 1
noncomputable abbrev sspansof:Stmt:=top 2
noncomputable abbrev sfallsapart:Stmt:=top 3
noncomputable abbrev swholespans:Stmt:=top 4
noncomputable abbrev swithin:Stmt:=top 5
noncomputable abbrev spointsin:Stmt:=top 6
noncomputable abbrev sownof:Stmt:=top 7
noncomputable abbrev sownpoints:Stmt:=top 8
noncomputable abbrev sisatrest:Stmt:=top 10
noncomputable abbrev sonesided:Stmt:=top 11
noncomputable abbrev sisknot:Stmt:=top 12
noncomputable abbrev sknotsof:Stmt:=top 13
noncomputable abbrev sLdeal:Stmt:=top 15
noncomputable abbrev sLdraw:Stmt:=top 16
noncomputable abbrev sLfarther:Stmt:=top 17
noncomputable abbrev sLputin:Stmt:=top 18
noncomputable abbrev sLblock:Stmt:=top 19
noncomputable abbrev sLnumbers:Stmt:=top 20
noncomputable abbrev sLknotty:Stmt:=top 21
noncomputable abbrev sLisspan:Stmt:=top 22
noncomputable abbrev sLwholes:Stmt:=top 23
noncomputable abbrev sLisknot:Stmt:=top 24
noncomputable abbrev sLright:Stmt:=top 25
noncomputable abbrev sLturned:Stmt:=top 26
noncomputable abbrev slaw:Stmt:=top 27
theorem sc_sspansfrom:FnScope ["numbers","begin","found","low","high","place","full"] ["numbers","begin"] (defScope sspansfrom):=⟨rfl,rfl,rfl,by decide +kernel,rfl,by decide +kernel,by decide +kernel⟩
theorem sc_sspansof:FnScope ["numbers","spans","begin","span"] ["numbers"] (defScope sspansof):=⟨rfl,rfl,rfl,by decide +kernel,rfl,by decide +kernel,by decide +kernel⟩
theorem sc_sfallsapart:FnScope ["span","spans"] ["span","spans"] (defScope sfallsapart):=⟨rfl,rfl,rfl,by decide +kernel,rfl,by decide +kernel,by decide +kernel⟩
theorem sc_swholespans:FnScope ["numbers","spans"] ["numbers"] (defScope swholespans):=⟨rfl,rfl,rfl,by decide +kernel,rfl,by decide +kernel,by decide +kernel⟩
theorem sc_swithin:FnScope ["span","other"] ["span","other"] (defScope swithin):=⟨rfl,rfl,rfl,by decide +kernel,rfl,by decide +kernel,by decide +kernel⟩
theorem sc_spointsin:FnScope ["span"] ["span"] (defScope spointsin):=⟨rfl,rfl,rfl,by decide +kernel,rfl,by decide +kernel,by decide +kernel⟩
theorem sc_sownof:FnScope ["span","wholes","taken","inner","point"] ["span","wholes"] (defScope sownof):=⟨rfl,rfl,rfl,by decide +kernel,rfl,by decide +kernel,by decide +kernel⟩
theorem sc_sownpoints:FnScope ["numbers","wholes","own","span"] ["numbers"] (defScope sownpoints):=⟨rfl,rfl,rfl,by decide +kernel,rfl,by decide +kernel,by decide +kernel⟩
theorem sc_sisatrest:FnScope ["numbers","point"] ["numbers","point"] (defScope sisatrest):=⟨rfl,rfl,rfl,by decide +kernel,rfl,by decide +kernel,by decide +kernel⟩
theorem sc_sonesided:FnScope ["numbers","points","below","point"] ["numbers","points"] (defScope sonesided):=⟨rfl,rfl,rfl,by decide +kernel,rfl,by decide +kernel,by decide +kernel⟩
theorem sc_sisknot:FnScope ["numbers","points"] ["numbers","points"] (defScope sisknot):=⟨rfl,rfl,rfl,by decide +kernel,rfl,by decide +kernel,by decide +kernel⟩
theorem sc_sknotsof:FnScope ["numbers","own"] ["numbers"] (defScope sknotsof):=⟨rfl,rfl,rfl,by decide +kernel,rfl,by decide +kernel,by decide +kernel⟩
theorem sc_sLdeal:FnScope ["_law_script","_law_at","_law_cell","_law_own"] ["_law_script","_law_at"] (defScope sLdeal):=⟨rfl,rfl,rfl,by decide +kernel,rfl,by decide +kernel,by decide +kernel⟩
theorem sc_sLdraw:FnScope ["_law_deal_here","_law_many","_law_digit","_law_one"] ["_law_deal_here","_law_many"] (defScope sLdraw):=⟨rfl,rfl,rfl,by decide +kernel,rfl,by decide +kernel,by decide +kernel⟩
theorem sc_sLfarther:FnScope ["_law_number","_law_by"] ["_law_number","_law_by"] (defScope sLfarther):=⟨rfl,rfl,rfl,by decide +kernel,rfl,by decide +kernel,by decide +kernel⟩
theorem sc_sLputin:FnScope ["_law_numbers_here","_law_at","_law_block_here","_law_here","_law_found","_law_number"] ["_law_numbers_here","_law_at","_law_block_here"] (defScope sLputin):=⟨rfl,rfl,rfl,by decide +kernel,rfl,by decide +kernel,by decide +kernel⟩
theorem sc_sLblock:FnScope ["_law_deal_here","_law_most","_law_many","_law_left","_law_sides","_law_found","_law_k"] ["_law_deal_here","_law_most"] (defScope sLblock):=⟨rfl,rfl,rfl,by decide +kernel,rfl,by decide +kernel,by decide +kernel⟩
theorem sc_sLnumbers:FnScope ["_law_deal_here","_law_most","_law_numbers_here","_law_k","_law_room","_law_block_here","_law_at"] ["_law_deal_here","_law_most"] (defScope sLnumbers):=⟨rfl,rfl,rfl,by decide +kernel,rfl,by decide +kernel,by decide +kernel⟩
theorem sc_sLknotty:FnScope ["_law_deal_here","_law_numbers_here","_law_many","_law_k","_law_inner","_law_pair","_law_block_here"] ["_law_deal_here"] (defScope sLknotty):=⟨rfl,rfl,rfl,by decide +kernel,rfl,by decide +kernel,by decide +kernel⟩
theorem sc_sLisspan:FnScope ["_law_numbers_here","_law_s","_law_e","_law_some"] ["_law_numbers_here","_law_s","_law_e"] (defScope sLisspan):=⟨rfl,rfl,rfl,by decide +kernel,rfl,by decide +kernel,by decide +kernel⟩
theorem sc_sLwholes:FnScope ["_law_numbers_here","_law_spans","_law_s","_law_e","_law_found"] ["_law_numbers_here"] (defScope sLwholes):=⟨rfl,rfl,rfl,by decide +kernel,rfl,by decide +kernel,by decide +kernel⟩
theorem sc_sLisknot:FnScope ["_law_numbers_here","_law_wholes_here","_law_span","_law_sides","_law_k","_law_inner"] ["_law_numbers_here","_law_wholes_here","_law_span"] (defScope sLisknot):=⟨rfl,rfl,rfl,by decide +kernel,rfl,by decide +kernel,by decide +kernel⟩
theorem sc_sLright:FnScope ["_law_numbers_here","_law_handed","_law_wholes_here","_law_due","_law_found"] ["_law_numbers_here"] (defScope sLright):=⟨rfl,rfl,rfl,by decide +kernel,rfl,by decide +kernel,by decide +kernel⟩
theorem sc_sLturned:FnScope ["_law_numbers_here","_law_i","_law_j"] ["_law_numbers_here","_law_i","_law_j"] (defScope sLturned):=⟨rfl,rfl,rfl,by decide +kernel,rfl,by decide +kernel,by decide +kernel⟩
theorem sc_slaw:FnScope ["_law_script","_law_k","_law_deal_here","_law_numbers_here","_law_i","_law_j"] ["_law_script"] (defScope slaw):=⟨rfl,rfl,rfl,by decide +kernel,rfl,by decide +kernel,by decide +kernel⟩
structure Md (mg:Str->Option Value):Prop where
 n_abs:mg "abs"=none
 n_all:mg "all"=none
 n_any:mg "any"=none
 n_int:mg "int"=none
 n_isinstance:mg "isinstance"=none
 n_len:mg "len"=none
 n_list:mg "list"=none
 n_max:mg "max"=none
 n_min:mg "min"=none
 n_range:mg "range"=none
 n_reversed:mg "reversed"=none
 n_sorted:mg "sorted"=none
 n_sum:mg "sum"=none
 n_tuple:mg "tuple"=none
end K43
namespace VF22
open PySem L2 VF
theorem pe_ofi {X:Cx} {e:Expr} {t:TE} (h:PEi X e t):PE X e t:=by
 unfold PEi at h;exact h
theorem pl_iii {X:Cx} {i0:Int} {j0:_} {p0:Pos} {i1:Int} {j1:_} {p1:Pos} {i2:Int} {j2:_} {p2:Pos} {pos:Pos}:PEi X (.List [.Constant (.int i0) j0 p0,.Constant (.int i1) j1 p1,.Constant (.int i2) j2 p2] pos) (tLst (tCons (tC (.int i0)) (tCons (tC (.int i1)) (tCons (tC (.int i2)) tNil)))):=pei_lst (pai_c rQ (pai_c rQ (pai_c rQ pai_nil rfl) rfl) rfl)
theorem pl_iiii {X:Cx} {i0:Int} {j0:_} {p0:Pos} {i1:Int} {j1:_} {p1:Pos} {i2:Int} {j2:_} {p2:Pos} {i3:Int} {j3:_} {p3:Pos} {pos:Pos}:PEi X (.List [.Constant (.int i0) j0 p0,.Constant (.int i1) j1 p1,.Constant (.int i2) j2 p2,.Constant (.int i3) j3 p3] pos) (tLst (tCons (tC (.int i0)) (tCons (tC (.int i1)) (tCons (tC (.int i2)) (tCons (tC (.int i3)) tNil))))):=pei_lst (pai_c rQ (pai_c rQ (pai_c rQ (pai_c rQ pai_nil rfl) rfl) rfl) rfl)
theorem pl_iiiii {X:Cx} {i0:Int} {j0:_} {p0:Pos} {i1:Int} {j1:_} {p1:Pos} {i2:Int} {j2:_} {p2:Pos} {i3:Int} {j3:_} {p3:Pos} {i4:Int} {j4:_} {p4:Pos} {pos:Pos}:PEi X (.List [.Constant (.int i0) j0 p0,.Constant (.int i1) j1 p1,.Constant (.int i2) j2 p2,.Constant (.int i3) j3 p3,.Constant (.int i4) j4 p4] pos) (tLst (tCons (tC (.int i0)) (tCons (tC (.int i1)) (tCons (tC (.int i2)) (tCons (tC (.int i3)) (tCons (tC (.int i4)) tNil)))))):=pei_lst (pai_c rQ (pai_c rQ (pai_c rQ (pai_c rQ (pai_c rQ pai_nil rfl) rfl) rfl) rfl) rfl)
theorem pl_ini {X:Cx} {i0:Int} {j0:_} {p0:Pos} {i1:Int} {j1:_} {p1:Pos} {q1:Pos} {i2:Int} {j2:_} {p2:Pos} {pos:Pos}:PEi X (.List [.Constant (.int i0) j0 p0,.UnaryOp .USub (.Constant (.int i1) j1 p1) q1,.Constant (.int i2) j2 p2] pos) (tLst (tCons (tC (.int i0)) (tCons (tUn (rU fun i=>.int (-i)) (tC (.int i1))) (tCons (tC (.int i2)) tNil)))):=pei_lst (pai_c rQ (pai_c (pe_un un_neg rQ) (pai_c rQ pai_nil rfl) rfl) rfl)
theorem psi_of {X:Cx} {s:Stmt} {t:L2.TS} (h:PS X s t):PSi X s t:=by
 unfold PSi;exact h
theorem psi_sti {X:Cx} (i:Nat) {e:Expr} {te:TE} {x:Str} {pos' pos:Pos} (hN:X.N.Nodup) (he:PEi X e te) (hi:X.N[i]?=some x:=by rfl) (hx:Loc X.env.scope x:=by first|exact Or.inl rfl|exact Or.inr rfl) (hf:X.fn x=true∨X.env.scope.names.lookup x=some .local:=by first|exact .inl rfl|exact .inr rfl|assumption)
  (hs:swapsWithSole [.Name x pos'] e pos.line X.env=pure false:=by rfl) (hw:swappedStores [.Name x pos'] e X.env=pure none:=by rfl) (h1:(assignEach [.Name x pos'] X.env).map (·.2)=[assign (.Name x pos') X.env]:=by rfl) :
  PSi X (.Assign [.Name x pos'] e pos) (tAsg te (gName i)):=by
 unfold PEi at he;unfold PSi;exact ps_st i hN he hi hx hf hs hw h1
theorem pss_ofi {X:Cx} {ss:List Stmt} {t:L2.TS} (h:PSsi X ss t):PSs X ss t:=by
 unfold PSsi at h;exact h
theorem pssi_nil {X:Cx}:PSsi X [] tNext:=by
 unfold PSsi;exact pss_nil
theorem pssi_cons {X:Cx} {s:Stmt} {ss:List Stmt} {t u:L2.TS} (h1:PSi X s t) (h2:PSsi X ss u):PSsi X (s::ss) (tSeq t u):=by
 unfold PSi at h1;unfold PSsi at *;exact rX h1 h2
theorem psi_if {X:Cx} {c:Expr} {a b:List Stmt} {tc:TT} {t u:L2.TS} {pos:Pos} (hc:PT X c tc) (ha:PSsi X a t) (hb:PSsi X b u):PSi X (.If c a b pos) (tIfS tc t u):=by
 unfold PSsi at ha hb;unfold PSi;exact ps_if hc ha hb
theorem psi_for {X:Cx} {tg iter:Expr} {body:List Stmt} {wi:TI} {g:TG} {tb:L2.TS} {pos:Pos} (hp:PassesOwn (model X.prog X.w) X.A X.env X.xe) (hc:X.calm=true) (hi:PI X tg iter wi) (hg:PG X tg g) (hb:PSsi X body tb)
  (hs:∀x,foldedSetIterable iter X.env x=pure x:=by intro _;rfl):PSi X (.For tg iter body [] pos) (tFor wi g tb):=by
 unfold PSsi at hb;unfold PSi;exact ps_for hp hc hi hg hb hs
end VF22
namespace K43
open PySem L2 VF VF22
section
variable {P:Program} {w:World} {K:PySem.W.Frag} {mg:Str->Option Value} {base:Heap} {f0:Addr} {fd:FuncData}
theorem ok_spans_from (F:Fun K "spans_from" "spans_from" sspansfrom f0 fd) (M:Md mg) :FnOk P w K mg base CX0 1 f0 fd ["numbers","begin"] (spV K G_spans_from):=by
 refine F.ok sc_sspansfrom (fun vs H Q E h=>lenV h) (fun cdv A outer s H vs Q E hr h=>?_)
 exact⟨_,(rX (ps_st 2 sc_sspansfrom.nd (pe_lst rJ))
   (rX (ps_st 3 sc_sspansfrom.nd (rE call_abs rfl M.n_abs PyProof.Rows.boot_abs (pa_c (pe_ix (rA (K:=K) rfl) (pv 0) (pv 1) (fun _ _=>rfl)) rJ)))
   (rX (ps_st 4 sc_sspansfrom.nd (pv 3))
   (rX (ps_for PassesOwn.never rfl (pi_range2 rfl M.n_range (pa_c (pC (pI (K:=K) rfl) (pv 1) rQ) (pa_c (rE (call_lenA (K:=K) rfl) rfl M.n_len PySem.boot_len (pa_c (pv 0) rJ)) rJ))) (pg_nm 5 sc_sspansfrom.nd) (rX (ps_st 3 sc_sspansfrom.nd (rE (call_min2 rfl) rfl M.n_min PyProof.Rows.boot_min (pa_c (pv 3) (pa_c (rE call_abs rfl M.n_abs PyProof.Rows.boot_abs (pa_c (pe_ix (rA (K:=K) rfl) (pv 0) (pv 5) (fun _ _=>rfl)) rJ)) rJ))))
   (rX (ps_st 4 sc_sspansfrom.nd (rE (call_max2 rfl) rfl M.n_max PyProof.Rows.boot_max (pa_c (pv 4) (pa_c (rE call_abs rfl M.n_abs PyProof.Rows.boot_abs (pa_c (pe_ix (rA (K:=K) rfl) (pv 0) (pv 5) (fun _ _=>rfl)) rJ)) rJ))))
   (rX (ps_st 6 sc_sspansfrom.nd (pe_cmpR (op_eqD (K:=K) rfl hr.units) (pC op_sub (pv 4) (pv 3)) (pC op_sub (pv 5) (pv 1)) (nomark _)))
   (rY (ps_if (PW.pt (pw_and (pt_val (pv 6)) (pw_and1 (pt_cmpR (op_inD (K:=K) rfl hr.units) (pe_tup (pa_c (pe_ix (rA (K:=K) rfl) (pv 0) (pv 1) (fun _ _=>rfl)) (pa_c (pe_ix (rA (K:=K) rfl) (pv 0) (pv 5) (fun _ _=>rfl)) rJ))) (pe_tup (pa_c (pe_tup (pa_c (pv 3) (pa_c (pv 4) rJ))) (pa_c (pe_tup (pa_c (pe_un un_neg (pv 4)) (pa_c (pe_un un_neg (pv 3)) rJ))) rJ))) (by with_unfolding_all rfl))))) (rY (ps_expr (pe_bm PySem.F.plainAttrs_list PySem.F.slot_list_append PySem.F.type_list_append mt_append (pv 2) (pa_c (pe_tup (pa_c (pv 1) (pa_c (pv 5) rJ))) rJ)))) pss_nil))))))
   (rY (ps_ret (pv 2))))))),
  body_ok (N:=["numbers","begin","found","low","high","place","full"]) (rD (rH (rd_lst rK))
   (rD (rH (rd_cb rc_abs (rC (rW ro_ix (rV 0) (rV 1)) rK)))
   (rD (rH (rV 3))
   (rD (rs_for (ri_rng2 (rC (rW pV (rV 1) (rN _)) (rC (rd_cb rc_len (rC (rV 0) rK)) rK))) (rg_name 5) (rD (rH (rd_cb rc_min2 (rC (rV 3) (rC (rd_cb rc_abs (rC (rW ro_ix (rV 0) (rV 5)) rK)) rK))))
   (rD (rH (rd_cb rc_max2 (rC (rV 4) (rC (rd_cb rc_abs (rC (rW ro_ix (rV 0) (rV 5)) rK)) rK))))
   (rD (rH (rW ro_eqD (rW ro_sub (rV 4) (rV 3)) (rW ro_sub (rV 5) (rV 1))))
   (rs_if (rd_andT (rd_tB (rV 6)) (rd_test (rW ro_inD (rd_tup (rC (rW ro_ix (rV 0) (rV 1)) (rC (rW ro_ix (rV 0) (rV 5)) rK))) (rd_tup (rC (rd_tup (rC (rV 3) (rC (rV 4) rK))) (rC (rd_tup (rC (rd_un ru_neg (rV 4)) (rC (rd_un ru_neg (rV 3)) rK))) rK)))))) (rs_drop (rd_m rm_append (rC (rd_tup (rC (rV 1) (rC (rV 5) rK))) rK))) rs_next)))))
   (rs_ret (rV 2)))))) h⟩
theorem ok_spans_of (F:Fun K "spans_of" "spans_of" sspansof f0 fd) (M:Md mg) (c_spans_from:Cal P w K mg base "spans_from" 1 ["numbers","begin"] (spV K G_spans_from)):FnOk P w K mg base CX0 2 f0 fd ["numbers"] (spV K G_spans_of):=by
 refine F.ok sc_sspansof (fun vs H Q E h=>lenV h) (fun cdv A outer s H vs Q E hr h=>?_)
 exact⟨_,(rX (ps_st 1 sc_sspansof.nd pe_dnewT)
   (rX (ps_for PassesOwn.never rfl (pi_range1 rfl M.n_range (pa_c (rE (call_lenA (K:=K) rfl) rfl M.n_len PySem.boot_len (pa_c (pv 0) rJ)) rJ)) (pg_nm 2 sc_sspansof.nd) (rY (ps_for PassesOwn.never rfl (pi_any (K:=K) rfl (rB c_spans_from hr rfl (pa_c (pv 0) (pa_c (pv 2) rJ)))) (pg_nm 3 sc_sspansof.nd) (rY (ps_asg pe_bl (pg_sub (pv 1) (pv 3) (set_dictD (hu_of hr))))))))
   (rY (ps_ret (pv 1))))),
  body_ok (N:=["numbers","spans","begin","span"]) (rD (rH rd_dnewT)
   (rD (rs_for (ri_rng1 (rC (rd_cb rc_len (rC (rV 0) rK)) rK)) (rg_name 2) (rs_for (ri_any (rd_call (rC (rV 0) (rC (rV 2) rK)))) (rg_name 3) (rs_put rset_dict (rd_bl _) (rV 3))))
   (rs_ret (rV 1)))) h⟩
theorem ok_falls_apart (F:Fun K "falls_apart" "falls_apart" sfallsapart f0 fd) (M:Md mg) :FnOk P w K mg base CX0 1 f0 fd ["span","spans"] (spV K G_falls_apart):=by
 refine F.ok sc_sfallsapart (fun vs H Q E h=>lenV h) (fun cdv A outer s H vs Q E hr h=>?_)
 exact⟨_,(rY (ps_ret (rE (call_any (K:=K) rfl rfl) rfl M.n_any PyProof.Rows.boot_any (pa_c (pe_comp (blk_mk (osc:=(defScope sfallsapart)) (ON:=["span","spans"]) (N:=["place","spans","span"]) (k:=1) (caps:=[1,0]) (by decide +kernel) rfl rfl) rfl (pi_range2 rfl M.n_range (pa_c (pC (pI (K:=K) rfl) (pe_ix (rA (K:=K) rfl) (pv 0) rQ (fun _ _=>rfl)) rQ) (pa_c (pe_ix (rA (K:=K) rfl) (pv 0) rQ (fun _ _=>rfl)) rJ))) (fun _ _ _ _=>(pg_nm 0 (by show(["place","spans","span"]:List Str).Nodup;decide +kernel))) (fun _ _ _ _=>pif_nil) (fun _ _ _ _=>(pe_and (pe_cmpR (op_din (hu_of hr)) (pe_tup (pa_c (pe_ix (rA (K:=K) rfl) (pv 2) rQ (fun _ _=>rfl)) (pa_c (pv 0) rJ))) (pv 1) (by with_unfolding_all rfl)) (pe_one (pe_cmpR (op_din (hu_of hr)) (pe_tup (pa_c (pv 0) (pa_c (pe_ix (rA (K:=K) rfl) (pv 2) rQ (fun _ _=>rfl)) rJ))) (pv 1) (by with_unfolding_all rfl)))))) rJ)))),
  body_ok (N:=["span","spans"]) (rs_ret (rd_cb rc_any (rC (rd_comp (ri_rng2 (rC (rW pV (rW ro_ix (rV 0) (rN _)) (rN _)) (rC (rW ro_ix (rV 0) (rN _)) rK))) (rg_name 0) (by decide) rd_yes (rd_andV (rW (ro_din false) (rd_tup (rC (rW ro_ix (rV 2) (rN _)) (rC (rV 0) rK))) (rV 1)) (rW (ro_din false) (rd_tup (rC (rV 0) (rC (rW ro_ix (rV 2) (rN _)) rK))) (rV 1)))) rK))) h⟩
theorem ok_whole_spans (F:Fun K "whole_spans" "whole_spans" swholespans f0 fd) (M:Md mg) (c_spans_of:Cal P w K mg base "spans_of" 2 ["numbers"] (spV K G_spans_of)) (c_falls_apart:Cal P w K mg base "falls_apart" 1 ["span","spans"] (spV K G_falls_apart)):FnOk P w K mg base CX0 3 f0 fd ["numbers"] (spV K G_whole_spans):=by
 refine F.ok sc_swholespans (fun vs H Q E h=>lenV h) (fun cdv A outer s H vs Q E hr h=>?_)
 exact⟨_,(rX (ps_st 1 sc_swholespans.nd (rB c_spans_of hr rfl (pa_c (pv 0) rJ)))
   (rY (ps_ret (pe_comp (blk_mk (osc:=(defScope swholespans)) (ON:=["numbers","spans"]) (N:=["span","spans"]) (k:=1) (caps:=[1]) (by decide +kernel) rfl rfl) rfl (pi_any (K:=K) rfl (rE (call_sortT (K:=K) rfl rfl hr) rfl M.n_sorted boot_sorted (pa_c (pv 1) rJ))) (fun _ _ _ _=>(pg_nm 0 (by show(["span","spans"]:List Str).Nodup;decide +kernel))) (fun _ _ _ _=>pif_one (pt_not (pt_val (rB c_falls_apart hr rfl (pa_c (pv 0) (pa_c (pv 1) rJ)))))) (fun _ _ _ _=>(pv 0)))))),
  body_ok (N:=["numbers","spans"]) (rD (rH (rd_call (rC (rV 0) rK)))
   (rs_ret (rd_comp (ri_any (rd_cb rc_sortT (rC (rV 1) rK))) (rg_name 0) (by decide) (rd_notT (rd_tB (rd_callS (rC (rV 0) (rC (rV 1) rK))))) (rV 0)))) h⟩
theorem ok_within (F:Fun K "within" "within" swithin f0 fd) (M:Md mg) :FnOk P w K mg base CX0 1 f0 fd ["span","other"] (spV K G_within):=by
 refine F.ok sc_swithin (fun vs H Q E h=>lenV h) (fun cdv A outer s H vs Q E hr h=>?_)
 exact⟨_,(rY (ps_ret (pe_and (pe_cmpR (op_neD (K:=K) rfl hr.units) (pv 0) (pv 1) (nomark _)) (pe_and (pe_cmpR op_le (pe_ix (rA (K:=K) rfl) (pv 1) rQ (fun _ _=>rfl)) (pe_ix (rA (K:=K) rfl) (pv 0) rQ (fun _ _=>rfl)) (nomark _)) (pe_one (pe_cmpR op_le (pe_ix (rA (K:=K) rfl) (pv 0) rQ (fun _ _=>rfl)) (pe_ix (rA (K:=K) rfl) (pv 1) rQ (fun _ _=>rfl)) (nomark _))))))),
  body_ok (N:=["span","other"]) (rs_ret (rd_andV (rW ro_neD (rV 0) (rV 1)) (rd_andV (rW ro_le (rW ro_ix (rV 1) (rN _)) (rW ro_ix (rV 0) (rN _))) (rW ro_le (rW ro_ix (rV 0) (rN _)) (rW ro_ix (rV 1) (rN _)))))) h⟩
theorem ok_points_in (F:Fun K "points_in" "points_in" spointsin f0 fd) (M:Md mg) :FnOk P w K mg base CX0 1 f0 fd ["span"] (spV K G_points_in):=by
 refine F.ok sc_spointsin (fun vs H Q E h=>lenV h) (fun cdv A outer s H vs Q E hr h=>?_)
 exact⟨_,(rY (ps_ret (pe_callTy (call_listR rfl) rfl M.n_list boot_list' (pa_c (pe_rngO2 rfl M.n_range (pa_c (pe_ix (rA (K:=K) rfl) (pv 0) rQ (fun _ _=>rfl)) (pa_c (pe_ix (rA (K:=K) rfl) (pv 0) rQ (fun _ _=>rfl)) rJ))) rJ)))),
  body_ok (N:=["span"]) (rs_ret (rd_lr2 (rC (rW ro_ix (rV 0) (rN _)) (rC (rW ro_ix (rV 0) (rN _)) rK)))) h⟩
theorem ok_own_of (F:Fun K "own_of" "own_of" sownof f0 fd) (M:Md mg) (c_within:Cal P w K mg base "within" 1 ["span","other"] (spV K G_within)) (c_points_in:Cal P w K mg base "points_in" 1 ["span"] (spV K G_points_in)):FnOk P w K mg base CX0 2 f0 fd ["span","wholes"] (spV K G_own_of):=by
 refine F.ok sc_sownof (fun vs H Q E h=>lenV h) (fun cdv A outer s H vs Q E hr h=>?_)
 exact⟨_,(rX (ps_st 2 sc_sownof.nd pe_dnewK)
   (rX (ps_for PassesOwn.never rfl (pi_any (K:=K) rfl (pv 1)) (pg_nm 3 sc_sownof.nd) (rY (ps_if (pt_val (rB c_within hr rfl (pa_c (pv 3) (pa_c (pv 0) rJ)))) (rY (ps_for PassesOwn.never rfl (pi_any (K:=K) rfl (rB c_points_in hr rfl (pa_c (pv 3) rJ))) (pg_nm 4 sc_sownof.nd) (rY (ps_asg pe_bl (pg_sub (pv 2) (pv 4) (set_dictD (hu_of hr))))))) pss_nil)))
   (rY (ps_ret (pe_comp (blk_mk (osc:=(defScope sownof)) (ON:=["span","wholes","taken","inner","point"]) (N:=["point","taken"]) (k:=1) (caps:=[2]) (by decide +kernel) rfl rfl) rfl (pi_any (K:=K) rfl (rB c_points_in hr rfl (pa_c (pv 0) rJ))) (fun _ _ _ _=>(pg_nm 0 (by show(["point","taken"]:List Str).Nodup;decide +kernel))) (fun _ _ _ _=>pif_one (pt_cmpR (op_dnotin (hu_of hr)) (pv 0) (pv 1) (by with_unfolding_all rfl))) (fun _ _ _ _=>(pv 0))))))),
  body_ok (N:=["span","wholes","taken","inner","point"]) (rD (rH rd_dnewK)
   (rD (rs_for (ri_any (rV 1)) (rg_name 3) (rs_if (rd_tB (rd_callS (rC (rV 3) (rC (rV 0) rK)))) (rs_for (ri_any (rd_call (rC (rV 3) rK))) (rg_name 4) (rs_put rset_dict (rd_bl _) (rV 4))) rs_next))
   (rs_ret (rd_comp (ri_any (rd_call (rC (rV 0) rK))) (rg_name 0) (by decide) (rd_test (rW (ro_din true) (rV 0) (rV 1))) (rV 0))))) h⟩
theorem ok_own_points (F:Fun K "own_points" "own_points" sownpoints f0 fd) (M:Md mg) (c_whole_spans:Cal P w K mg base "whole_spans" 3 ["numbers"] (spV K G_whole_spans)) (c_own_of:Cal P w K mg base "own_of" 2 ["span","wholes"] (spV K G_own_of)):FnOk P w K mg base CX0 4 f0 fd ["numbers"] (spV K G_own_points):=by
 refine F.ok sc_sownpoints (fun vs H Q E h=>lenV h) (fun cdv A outer s H vs Q E hr h=>?_)
 exact⟨_,(rX (ps_st 1 sc_sownpoints.nd (rB c_whole_spans hr rfl (pa_c (pv 0) rJ)))
   (rX (ps_st 2 sc_sownpoints.nd pe_dnewT)
   (rX (ps_for PassesOwn.never rfl (pi_any (K:=K) rfl (pv 1)) (pg_nm 3 sc_sownpoints.nd) (rY (ps_asg (rB c_own_of hr rfl (pa_c (pv 3) (pa_c (pv 1) rJ))) (pg_sub (pv 2) (pv 3) (set_dictD (hu_of hr))))))
   (rY (ps_ret (pv 2)))))),
  body_ok (N:=["numbers","wholes","own","span"]) (rD (rH (rd_call (rC (rV 0) rK)))
   (rD (rH rd_dnewT)
   (rD (rs_for (ri_any (rV 1)) (rg_name 3) (rs_put rset_dict (rd_call (rC (rV 3) (rC (rV 1) rK))) (rV 3)))
   (rs_ret (rV 2))))) h⟩
theorem ok_is_at_rest (F:Fun K "is_at_rest" "is_at_rest" sisatrest f0 fd) (M:Md mg) :FnOk P w K mg base CX0 1 f0 fd ["numbers","point"] (spV K G_is_at_rest):=by
 refine F.ok sc_sisatrest (fun vs H Q E h=>lenV h) (fun cdv A outer s H vs Q E hr h=>?_)
 exact⟨_,(rY (ps_ret (pe_cmpR (op_eqD (K:=K) rfl hr.units) (pe_ix (rA (K:=K) rfl) (pv 0) (pC (pI (K:=K) rfl) (pv 1) rQ) (fun _ _=>rfl)) (pC (pI (K:=K) rfl) (pe_ix (rA (K:=K) rfl) (pv 0) (pv 1) (fun _ _=>rfl)) rQ) (nomark _)))),
  body_ok (N:=["numbers","point"]) (rs_ret (rW ro_eqD (rW ro_ix (rV 0) (rW pV (rV 1) (rN _))) (rW pV (rW ro_ix (rV 0) (rV 1)) (rN _)))) h⟩
theorem ok_one_sided (F:Fun K "one_sided" "one_sided" sonesided f0 fd) (M:Md mg) :FnOk P w K mg base CX0 1 f0 fd ["numbers","points"] (spV K G_one_sided):=by
 refine F.ok sc_sonesided (fun vs H Q E h=>lenV h) (fun cdv A outer s H vs Q E hr h=>?_)
 exact⟨_,(rX (ps_st 2 sc_sonesided.nd (pe_lst rJ))
   (rX (ps_for PassesOwn.never rfl (pi_any (K:=K) rfl (pv 1)) (pg_nm 3 sc_sonesided.nd) (rY (ps_expr (pe_bm PySem.F.plainAttrs_list PySem.F.slot_list_extend PySem.F.type_list_extend (mt_extendA (K:=K) rfl rfl) (pv 2) (pa_c (pe_lst (pa_c (pe_cmpR op_ltA (pe_ix (rA (K:=K) rfl) (pv 0) (pv 3) (fun _ _=>rfl)) rQ (nomark _)) (pa_c (pe_cmpR op_ltA (pe_ix (rA (K:=K) rfl) (pv 0) (pC (pI (K:=K) rfl) (pv 3) rQ) (fun _ _=>rfl)) rQ (nomark _)) rJ))) rJ)))))
   (rY (ps_ret (pe_or (rE (call_all rfl) rfl M.n_all boot_all (pa_c (pv 2) rJ)) (pe_one (pe_not (rE (call_any (K:=K) rfl rfl) rfl M.n_any PyProof.Rows.boot_any (pa_c (pv 2) rJ))))))))),
  body_ok (N:=["numbers","points","below","point"]) (rD (rH (rd_lst rK))
   (rD (rs_for (ri_any (rV 1)) (rg_name 3) (rs_drop (rd_m rm_extend (rC (rd_lst (rC (rW ro_ltA (rW ro_ix (rV 0) (rV 3)) (rN _)) (rC (rW ro_ltA (rW ro_ix (rV 0) (rW pV (rV 3) (rN _))) (rN _)) rK))) rK))))
   (rs_ret (rd_orV (rd_cb rc_all (rC (rV 2) rK)) (rd_notV (rd_cb rc_any (rC (rV 2) rK))))))) h⟩
theorem ok_is_knot (F:Fun K "is_knot" "is_knot" sisknot f0 fd) (M:Md mg) (c_is_at_rest:Cal P w K mg base "is_at_rest" 1 ["numbers","point"] (spV K G_is_at_rest)) (c_one_sided:Cal P w K mg base "one_sided" 1 ["numbers","points"] (spV K G_one_sided)):FnOk P w K mg base CX0 2 f0 fd ["numbers","points"] (spV K G_is_knot):=by
 refine F.ok sc_sisknot (fun vs H Q E h=>lenV h) (fun cdv A outer s H vs Q E hr h=>?_)
 exact⟨_,(rY (ps_ret (pe_and (pe_not (rE (call_all rfl) rfl M.n_all boot_all (pa_c (pe_comp (blk_mk (osc:=(defScope sisknot)) (ON:=["numbers","points"]) (N:=["point","numbers"]) (k:=1) (caps:=[0]) (by decide +kernel) rfl rfl) rfl (pi_any (K:=K) rfl (pv 1)) (fun _ _ _ _=>(pg_nm 0 (by show(["point","numbers"]:List Str).Nodup;decide +kernel))) (fun _ _ _ _=>pif_nil) (fun _ _ _ _=>(rB c_is_at_rest hr rfl (pa_c (pv 1) (pa_c (pv 0) rJ))))) rJ))) (pe_one (rB c_one_sided hr rfl (pa_c (pv 0) (pa_c (pv 1) rJ))))))),
  body_ok (N:=["numbers","points"]) (rs_ret (rd_andV (rd_notV (rd_cb rc_all (rC (rd_comp (ri_any (rV 1)) (rg_name 0) (by decide) rd_yes (rd_callS (rC (rV 1) (rC (rV 0) rK)))) rK))) (rd_callS (rC (rV 0) (rC (rV 1) rK))))) h⟩
theorem ok_knots_of (F:Fun K "knots_of" "knots_of" sknotsof f0 fd) (M:Md mg) (c_own_points:Cal P w K mg base "own_points" 4 ["numbers"] (spV K G_own_points)) (c_is_knot:Cal P w K mg base "is_knot" 2 ["numbers","points"] (spV K G_is_knot)):FnOk P w K mg base CX0 5 f0 fd ["numbers"] (spV K G_knots_of):=by
 refine F.ok sc_sknotsof (fun vs H Q E h=>lenV h) (fun cdv A outer s H vs Q E hr h=>?_)
 exact⟨_,(rX (ps_st 1 sc_sknotsof.nd (rB c_own_points hr rfl (pa_c (pv 0) rJ)))
   (rY (ps_ret (pe_comp (blk_mk (osc:=(defScope sknotsof)) (ON:=["numbers","own"]) (N:=["span","numbers","own"]) (k:=1) (caps:=[0,1]) (by decide +kernel) rfl rfl) rfl (pi_any (K:=K) rfl (rE (call_sortT (K:=K) rfl rfl hr) rfl M.n_sorted boot_sorted (pa_c (pv 1) rJ))) (fun _ _ _ _=>(pg_nm 0 (by show(["span","numbers","own"]:List Str).Nodup;decide +kernel))) (fun _ _ _ _=>pif_one (pt_val (rB c_is_knot hr rfl (pa_c (pv 1) (pa_c (pe_dgetV (hu_of hr) (pv 2) (pv 0) (fun _ _=>rfl)) rJ))))) (fun _ _ _ _=>(pv 0)))))),
  body_ok (N:=["numbers","own"]) (rD (rH (rd_call (rC (rV 0) rK)))
   (rs_ret (rd_comp (ri_any (rd_cb rc_sortT (rC (rV 1) rK))) (rg_name 0) (by decide) (rd_tB (rd_callS (rC (rV 1) (rC (rW ro_dget (rV 2) (rV 0)) rK)))) (rV 0)))) h⟩
theorem ok_law_deal (F:Fun K "_law_deal" "_law_deal" sLdeal f0 fd) (M:Md mg) :FnOk P w K mg base CX0 1 f0 fd ["_law_script","_law_at"] (spV K G_law_deal):=by
 refine F.ok sc_sLdeal (fun vs H Q E h=>lenV h) (fun cdv A outer s H vs Q E hr h=>?_)
 exact⟨_,(rX (ps_st 2 sc_sLdeal.nd (pC (pI (K:=K) rfl) (pC op_mulA rQ (pv 1)) rQ))
   (rX (ps_if (pt_cmpR op_ltA (pv 1) (rE (call_lenA (K:=K) rfl) rfl M.n_len PySem.boot_len (pa_c (pv 0) rJ)) (nomark _)) (rY (ps_st 2 sc_sLdeal.nd (pe_ix (rA (K:=K) rfl) (pv 0) (pv 1) (fun _ _=>rfl)))) (rY (ps_if (pt_cmpR op_gt (rE (call_lenA (K:=K) rfl) rfl M.n_len PySem.boot_len (pa_c (pv 0) rJ)) rQ (nomark _)) (rY (ps_st 2 sc_sLdeal.nd (pC (pI (K:=K) rfl) (pC op_mulA (pC op_mod (pe_ix (rA (K:=K) rfl) (pv 0) (pC op_mod (pv 1) (rE (call_lenA (K:=K) rfl) rfl M.n_len PySem.boot_len (pa_c (pv 0) rJ))) (fun _ _=>rfl)) rQ) rQ) (pC op_mulA rQ (pv 1))))) pss_nil)))
   (rX (ps_st 3 sc_sLdeal.nd rQ)
   (rX (ps_if (pt_cmpR op_ge (pv 2) (pC op_pow rQ rQ) (nomark _)) (rY (ps_st 3 sc_sLdeal.nd (pv 2))) pss_nil)
   (rY (ps_ret (pe_lst (pa_c (pv 3) (pa_c (pC (pI (K:=K) rfl) (pC op_mod (pC (pI (K:=K) rfl) (pC op_mulA (pC op_mod (pv 2) rQ) rQ) (pC op_mulA rQ (pv 1))) rQ) rQ) rJ))))))))),
  body_ok (N:=["_law_script","_law_at","_law_cell","_law_own"]) (rD (rH (rW pV (rW ro_mulA (rN _) (rV 1)) (rN _)))
   (rD (rs_if (rd_test (rW ro_ltA (rV 1) (rd_cb rc_len (rC (rV 0) rK)))) (rH (rW ro_ix (rV 0) (rV 1))) (rs_if (rd_test (rW ro_gt (rd_cb rc_len (rC (rV 0) rK)) (rN _))) (rH (rW pV (rW ro_mulA (rW ro_mod (rW ro_ix (rV 0) (rW ro_mod (rV 1) (rd_cb rc_len (rC (rV 0) rK)))) (rN _)) (rN _)) (rW ro_mulA (rN _) (rV 1)))) rs_next))
   (rD (rH (rN _))
   (rD (rs_if (rd_test (rW ro_ge (rV 2) (rW ro_pow (rN _) (rN _)))) (rH (rV 2)) rs_next)
   (rs_ret (rd_lst (rC (rV 3) (rC (rW pV (rW ro_mod (rW pV (rW ro_mulA (rW ro_mod (rV 2) (rN _)) (rN _)) (rW ro_mulA (rN _) (rV 1))) (rN _)) (rN _)) rK)))))))) h⟩
theorem ok_law_draw (F:Fun K "_law_draw" "_law_draw" sLdraw f0 fd) (M:Md mg) :FnOk P w K mg base CX0 1 f0 fd ["_law_deal_here","_law_many"] (spIO K G_law_draw):=by
 refine F.ok sc_sLdraw (fun vs H Q E h=>lenIO h) (fun cdv A outer s H vs Q E hr h=>?_)
 exact⟨_,(rX (ps_if (pt_cmpR op_gt (pe_ix (rA (K:=K) rfl) (pv 0) rQ (fun _ _=>rfl)) rQ (nomark _)) (rX (ps_st 2 sc_sLdraw.nd (pC op_mod (pe_ix (rA (K:=K) rfl) (pv 0) rQ (fun _ _=>rfl)) (pv 1)))
   (rX (ps_asg (pC op_fdiv (pe_ix (rA (K:=K) rfl) (pv 0) rQ (fun _ _=>rfl)) (pv 1)) (pg_sub (pv 0) rQ set_list))
   (rY (ps_ret (pv 2))))) pss_nil)
   (rX (ps_st 3 sc_sLdraw.nd (pC op_mod (pC op_mulA (pe_ix (rA (K:=K) rfl) (pv 0) rQ (fun _ _=>rfl)) rQ) rQ))
   (rX (ps_asg (pC (pI (K:=K) rfl) (pC op_mod (pC (pI (K:=K) rfl) (pC op_mulA (pv 3) rQ) rQ) rQ) rQ) (pg_sub (pv 0) rQ set_list))
   (rY (ps_ret (pC op_mod (pC (pI (K:=K) rfl) (pC op_mulA (pC op_mod (pC op_mulA (pv 3) (pv 3)) rQ) rQ) (pC op_fdiv (pe_ix (rA (K:=K) rfl) (pv 0) rQ (fun _ _=>rfl)) rQ)) (pv 1))))))),
  bodyIO_ok (N:=["_law_deal_here","_law_many","_law_digit","_law_one"]) (rD (rs_if (rd_test (rW ro_gt (rW ro_ix (rV 0) (rN _)) (rN _))) (rD (rH (rW ro_mod (rW ro_ix (rV 0) (rN _)) (rV 1)))
   (rD (rs_put rset_list (rW ro_div (rW ro_ix (rV 0) (rN _)) (rV 1)) (rN _))
   (rs_ret (rV 2)))) rs_next)
   (rD (rH (rW ro_mod (rW ro_mulA (rW ro_ix (rV 0) (rN _)) (rN _)) (rN _)))
   (rD (rs_put rset_list (rW pV (rW ro_mod (rW pV (rW ro_mulA (rV 3) (rN _)) (rN _)) (rN _)) (rN _)) (rN _))
   (rs_ret (rW ro_mod (rW pV (rW ro_mulA (rW ro_mod (rW ro_mulA (rV 3) (rV 3)) (rN _)) (rN _)) (rW ro_div (rW ro_ix (rV 0) (rN _)) (rN _))) (rV 1)))))) h⟩
theorem ok_law_farther (F:Fun K "_law_farther" "_law_farther" sLfarther f0 fd) (M:Md mg) :FnOk P w K mg base CX0 1 f0 fd ["_law_number","_law_by"] (spV K G_law_farther):=by
 refine F.ok sc_sLfarther (fun vs H Q E h=>lenV h) (fun cdv A outer s H vs Q E hr h=>?_)
 exact⟨_,(rX (ps_if (pt_cmpR op_ltA (pv 0) rQ (nomark _)) (rY (ps_ret (pC op_sub (pv 0) (pv 1)))) pss_nil)
   (rY (ps_ret (pC (pI (K:=K) rfl) (pv 0) (pv 1))))),
  body_ok (N:=["_law_number","_law_by"]) (rD (rs_if (rd_test (rW ro_ltA (rV 0) (rN _))) (rs_ret (rW ro_sub (rV 0) (rV 1))) rs_next)
   (rs_ret (rW pV (rV 0) (rV 1)))) h⟩
theorem ok_law_put_in (F : Fun K "_law_put_in" "_law_put_in" sLputin f0 fd) (M : Md mg) (c_law_farther : Cal P w K mg base "_law_farther" 1 ["_law_number", "_law_by"] (spV K G_law_farther)) : FnOk P w K mg base CX0 2 f0 fd ["_law_numbers_here", "_law_at", "_law_block_here"] (spV K G_law_put_in) := by
  refine F.ok sc_sLputin (fun vs H Q E h => lenV h) (fun cdv A outer s H vs Q E hr h => ?_)
  exact ⟨_, (rX (ps_st 3 sc_sLputin.nd (pe_ix (rA (K := K) rfl) (pv 0) (pv 1) (fun _ _ => rfl)))
      (rX (ps_st 4 sc_sLputin.nd (pe_lst rJ))
      (rX (ps_for PassesOwn.never rfl (pi_any (K := K) rfl (pv 0)) (pg_nm 5 sc_sLputin.nd) (rY (ps_if (pt_cmpR op_gt (rE call_abs rfl M.n_abs PyProof.Rows.boot_abs (pa_c (pv 5) rJ)) (rE call_abs rfl M.n_abs PyProof.Rows.boot_abs (pa_c (pv 3) rJ)) (nomark _)) (rY (ps_expr (pe_bm PySem.F.plainAttrs_list PySem.F.slot_list_append PySem.F.type_list_append mt_append (pv 4) (pa_c (rB c_law_farther hr rfl (pa_c (pv 5) (pa_c (pe_ix (rA (K := K) rfl) (pv 2) (pe_un un_neg rQ) (fun _ _ => rfl)) rJ))) rJ)))) (rY (ps_if (pt_cmpR (op_neA (K := K) rfl hr.units) (pv 5) (pv 3) (nomark _)) (rY (ps_expr (pe_bm PySem.F.plainAttrs_list PySem.F.slot_list_append PySem.F.type_list_append mt_append (pv 4) (pa_c (pv 5) rJ)))) (rY (ps_if (pt_cmpR op_ge (pv 3) rQ (nomark _)) (rY (ps_expr (pe_bm PySem.F.plainAttrs_list PySem.F.slot_list_extend PySem.F.type_list_extend (mt_extendA (K := K) rfl rfl) (pv 4) (pa_c (pe_comp (blk_mk (osc := (defScope sLputin)) (ON := ["_law_numbers_here", "_law_at", "_law_block_here", "_law_here", "_law_found", "_law_number"]) (N := ["_law_part", "_law_here"]) (k := 1) (caps := [3]) (by decide +kernel) rfl rfl) rfl (pi_any (K := K) rfl (pv 2)) (fun _ _ _ _ => (pg_nm 0 (by show (["_law_part", "_law_here"] : List Str).Nodup; decide +kernel))) (fun _ _ _ _ => pif_nil) (fun _ _ _ _ => (rB c_law_farther hr rfl (pa_c (pv 0) (pa_c (pv 1) rJ))))) rJ)))) (rY (ps_expr (pe_bm PySem.F.plainAttrs_list PySem.F.slot_list_extend PySem.F.type_list_extend (mt_extendA (K := K) rfl rfl) (pv 4) (pa_c (pe_comp (blk_mk (osc := (defScope sLputin)) (ON := ["_law_numbers_here", "_law_at", "_law_block_here", "_law_here", "_law_found", "_law_number"]) (N := ["_law_part", "_law_here"]) (k := 1) (caps := [3]) (by decide +kernel) rfl rfl) rfl (pi_revL (K := K) rfl rfl rfl M.n_reversed (pv 2)) (fun _ _ _ _ => (pg_nm 0 (by show (["_law_part", "_law_here"] : List Str).Nodup; decide +kernel))) (fun _ _ _ _ => pif_nil) (fun _ _ _ _ => (pC op_sub rQ (rB c_law_farther hr rfl (pa_c (pv 0) (pa_c (pC op_sub rQ (pv 1)) rJ)))))) rJ)))))))))))
      (rY (ps_ret (pv 4)))))),
    body_ok (N := ["_law_numbers_here", "_law_at", "_law_block_here", "_law_here", "_law_found", "_law_number"]) (rD (rH (rW ro_ix (rV 0) (rV 1)))
      (rD (rH (rd_lst rK))
      (rD (rs_for (ri_any (rV 0)) (rg_name 5) (rs_if (rd_test (rW ro_gt (rd_cb rc_abs (rC (rV 5) rK)) (rd_cb rc_abs (rC (rV 3) rK)))) (rs_drop (rd_m rm_append (rC (rd_callS (rC (rV 5) (rC (rW ro_ix (rV 2) (rd_un ru_neg (rN _))) rK))) rK))) (rs_if (rd_test (rW ro_neA (rV 5) (rV 3))) (rs_drop (rd_m rm_append (rC (rV 5) rK))) (rs_if (rd_test (rW ro_ge (rV 3) (rN _))) (rs_drop (rd_m rm_extend (rC (rd_comp (ri_any (rV 2)) (rg_name 0) (by decide) rd_yes (rd_callS (rC (rV 0) (rC (rV 1) rK)))) rK))) (rs_drop (rd_m rm_extend (rC (rd_comp (ri_revL (rV 2)) (rg_name 0) (by decide) rd_yes (rW ro_sub (rN _) (rd_callS (rC (rV 0) (rC (rW ro_sub (rN _) (rV 1)) rK))))) rK)))))))
      (rs_ret (rV 4))))) h⟩
theorem ok_law_block (F:Fun K "_law_block" "_law_block" sLblock f0 fd) (M:Md mg) (c_law_draw:Cal P w K mg base "_law_draw" 1 ["_law_deal_here","_law_many"] (spIO K G_law_draw)):FnOk P w K mg base CX0 2 f0 fd ["_law_deal_here","_law_most"] (spIO K G_law_block):=by
 refine F.ok sc_sLblock (fun vs H Q E h=>lenIO h) (fun cdv A outer s H vs Q E hr h=>?_)
 exact⟨_,(rX (ps_st 2 sc_sLblock.nd (pC (pI (K:=K) rfl) rQ (rB c_law_draw hr rfl (pa_c (pv 0) (pa_c (pv 1) rJ)))))
   (rX (ps_st 3 sc_sLblock.nd (pe_callTy (call_listR rfl) rfl M.n_list boot_list' (pa_c (pe_rngO2 rfl M.n_range (pa_c rQ (pa_c (pC (pI (K:=K) rfl) (pv 2) rQ) rJ))) rJ)))
   (rX (ps_st 4 sc_sLblock.nd (pe_lst (pa_c rQ (pa_c (pC op_sub rQ (pC op_mulA rQ (pe_callTy call_int1 rfl M.n_int boot_int' (pa_c (pe_cmpR (op_eqA (K:=K) rfl hr.units) (rB c_law_draw hr rfl (pa_c (pv 0) (pa_c rQ rJ))) rQ (nomark _)) rJ)))) rJ))))
   (rX (ps_st 5 sc_sLblock.nd (pe_lst (pa_c rQ rJ)))
   (rX (ps_for PassesOwn.never rfl (pi_range1 rfl M.n_range (pa_c (pv 2) rJ)) (pg_nm 6 sc_sLblock.nd) (rY (ps_expr (pe_bm PySem.F.plainAttrs_list PySem.F.slot_list_append PySem.F.type_list_append mt_append (pv 5) (pa_c (pC op_mulA (pe_bm PySem.F.plainAttrs_list PySem.F.slot_list_pop PySem.F.type_list_pop mt_popAt (pv 3) (pa_c (rB c_law_draw hr rfl (pa_c (pv 0) (pa_c (rE (call_lenA (K:=K) rfl) rfl M.n_len PySem.boot_len (pa_c (pv 3) rJ)) rJ))) rJ)) (pe_ix (rA (K:=K) rfl) (pv 4) (rB c_law_draw hr rfl (pa_c (pv 0) (pa_c rQ rJ))) (fun _ _=>rfl))) rJ)))))
   (rY (ps_ret (pC (pI (K:=K) rfl) (pv 5) (pe_lst (pa_c (pC (pI (K:=K) rfl) (pv 2) rQ) rJ)))))))))),
  bodyIO_ok (N:=["_law_deal_here","_law_most","_law_many","_law_left","_law_sides","_law_found","_law_k"]) (rD (rH (rW pV (rN _) (rd_io (rC (rV 1) rK))))
   (rD (rH (rd_lr2 (rC (rN _) (rC (rW pV (rV 2) (rN _)) rK))))
   (rD (rH (rd_lst (rC (rN _) (rC (rW ro_sub (rN _) (rW ro_mulA (rN _) (rd_cb rc_int1 (rC (rW ro_eqA (rd_io (rC (rN _) rK)) (rN _)) rK)))) rK))))
   (rD (rH (rd_lst (rC (rN _) rK)))
   (rD (rs_for (ri_rng1 (rC (rV 2) rK)) (rg_name 6) (rs_drop (rd_m rm_append (rC (rW ro_mulA (rd_m rm_popAt (rC (rd_io (rC (rd_cb rc_len (rC (rV 3) rK)) rK)) rK)) (rW ro_ix (rV 4) (rd_io (rC (rN _) rK)))) rK))))
   (rs_ret (rW pV (rV 5) (rd_lst (rC (rW pV (rV 2) (rN _)) rK))))))))) h⟩
theorem ok_law_numbers (F:Fun K "_law_numbers" "_law_numbers" sLnumbers f0 fd) (M:Md mg) (c_law_draw:Cal P w K mg base "_law_draw" 1 ["_law_deal_here","_law_many"] (spIO K G_law_draw)) (c_law_put_in:Cal P w K mg base "_law_put_in" 2 ["_law_numbers_here","_law_at","_law_block_here"] (spV K G_law_put_in)) (c_law_block:Cal P w K mg base "_law_block" 2 ["_law_deal_here","_law_most"] (spIO K G_law_block)):FnOk P w K mg base CX0 3 f0 fd ["_law_deal_here","_law_most"] (spIO K G_law_numbers):=by
 refine F.ok sc_sLnumbers (fun vs H Q E h=>lenIO h) (fun cdv A outer s H vs Q E hr h=>?_)
 exact⟨_,(rX (ps_st 2 sc_sLnumbers.nd (pe_lst (pa_c rQ (pa_c rQ rJ))))
   (rX (ps_for PassesOwn.never rfl (pi_range1 rfl M.n_range (pa_c (pC (pI (K:=K) rfl) rQ (rB c_law_draw hr rfl (pa_c (pv 0) (pa_c rQ rJ)))) rJ)) (pg_nm 3 sc_sLnumbers.nd) (rX (ps_st 4 sc_sLnumbers.nd (pC op_sub (pC (pI (K:=K) rfl) (pv 1) rQ) (rE (call_lenA (K:=K) rfl) rfl M.n_len PySem.boot_len (pa_c (pv 2) rJ))))
   (rX (ps_st 5 sc_sLnumbers.nd (rB c_law_block hr rfl (pa_c (pv 0) (pa_c (pe_ofi (pei_ix (rA (K:=K) rfl) (pei_lst (pai_c rQ (pai_c rQ (pai_c (pv 1) pai_nil rfl) rfl) rfl)) (rB c_law_draw hr rfl (pa_c (pv 0) (pa_c rQ rJ))) (fun _ _=>rfl))) rJ))))
   (rX (ps_st 6 sc_sLnumbers.nd (rB c_law_draw hr rfl (pa_c (pv 0) (pa_c (rE (call_lenA (K:=K) rfl) rfl M.n_len PySem.boot_len (pa_c (pv 2) rJ)) rJ))))
   (rY (ps_if (pt_cmpR op_le (pC op_sub (rE (call_lenA (K:=K) rfl) rfl M.n_len PySem.boot_len (pa_c (pv 5) rJ)) rQ) (pv 4) (nomark _)) (rY (ps_st 2 sc_sLnumbers.nd (rB c_law_put_in hr rfl (pa_c (pv 2) (pa_c (pv 6) (pa_c (pv 5) rJ)))))) pss_nil))))))
   (rY (ps_ret (pv 2))))),
  bodyIO_ok (N:=["_law_deal_here","_law_most","_law_numbers_here","_law_k","_law_room","_law_block_here","_law_at"]) (rD (rH (rd_lst (rC (rN _) (rC (rN _) rK))))
   (rD (rs_for (ri_rng1 (rC (rW pV (rN _) (rd_io (rC (rN _) rK))) rK)) (rg_name 3) (rD (rH (rW ro_sub (rW pV (rV 1) (rN _)) (rd_cb rc_len (rC (rV 2) rK))))
   (rD (rH (rd_io (rC (rW ro_ix (rd_lst (rC (rN _) (rC (rN _) (rC (rV 1) rK)))) (rd_io (rC (rN _) rK))) rK)))
   (rD (rH (rd_io (rC (rd_cb rc_len (rC (rV 2) rK)) rK)))
   (rs_if (rd_test (rW ro_le (rW ro_sub (rd_cb rc_len (rC (rV 5) rK)) (rN _)) (rV 4))) (rH (rd_call (rC (rV 2) (rC (rV 6) (rC (rV 5) rK))))) rs_next)))))
   (rs_ret (rV 2)))) h⟩
theorem ok_law_knotty (F:Fun K "_law_knotty" "_law_knotty" sLknotty f0 fd) (M:Md mg) (c_law_draw:Cal P w K mg base "_law_draw" 1 ["_law_deal_here","_law_many"] (spIO K G_law_draw)) (c_law_put_in:Cal P w K mg base "_law_put_in" 2 ["_law_numbers_here","_law_at","_law_block_here"] (spV K G_law_put_in)):FnOk P w K mg base CX0 3 f0 fd ["_law_deal_here"] (spIO K G_law_knotty):=by
 refine F.ok sc_sLknotty (fun vs H Q E h=>lenIO h) (fun cdv A outer s H vs Q E hr h=>?_)
 exact⟨_,(pss_ofi (pssi_cons (psi_of (ps_st 1 sc_sLknotty.nd (pe_lst (pa_c rQ (pa_c rQ rJ)))))
   (pssi_cons (psi_if (pt_cmpR (op_eqA (K:=K) rfl hr.units) (rB c_law_draw hr rfl (pa_c (pv 0) (pa_c rQ rJ))) rQ (nomark _)) (pssi_cons (psi_sti 2 sc_sLknotty.nd (pei_ix (rA (K:=K) rfl) pl_iiii (rB c_law_draw hr rfl (pa_c (pv 0) (pa_c rQ rJ))) (fun _ _=>rfl)))
   (pssi_one (psi_for PassesOwn.never rfl (pi_range1 rfl M.n_range (pa_c (pv 2) rJ)) (pg_nm 3 sc_sLknotty.nd) (pssi_cons (psi_sti 4 sc_sLknotty.nd pl_iiii)
   (pssi_cons (psi_if (PW.pt (pw_and (pt_cmpR op_ltA (pv 2) rQ (nomark _)) (pw_and1 (pt_cmpR (op_eqA (K:=K) rfl hr.units) (rB c_law_draw hr rfl (pa_c (pv 0) (pa_c rQ rJ))) rQ (nomark _))))) (pssi_one (psi_of (ps_st 4 sc_sLknotty.nd (rB c_law_put_in hr rfl (pa_c (pe_ofi (pei_ix (rA (K:=K) rfl) (pei_lst (pai_ci pl_ini (pai_ci pl_iii pai_nil rfl) rfl)) (rB c_law_draw hr rfl (pa_c (pv 0) (pa_c rQ rJ))) (fun _ _=>rfl))) (pa_c (rB c_law_draw hr rfl (pa_c (pv 0) (pa_c rQ rJ))) (pa_c (pv 4) rJ))))))) pssi_nil)
   (pssi_cons (psi_of (ps_st 5 sc_sLknotty.nd (rB c_law_put_in hr rfl (pa_c (pe_ofi pl_iiii) (pa_c (pC (pI (K:=K) rfl) rQ (rB c_law_draw hr rfl (pa_c (pv 0) (pa_c rQ rJ)))) (pa_c (pv 4) rJ))))))
   (pssi_one (psi_of (ps_st 1 sc_sLknotty.nd (rB c_law_put_in hr rfl (pa_c (pv 1) (pa_c (pC op_sub (rE (call_lenA (K:=K) rfl) rfl M.n_len PySem.boot_len (pa_c (pv 1) rJ)) rQ) (pa_c (pv 5) rJ))))))))))))) (pssi_one (psi_for PassesOwn.never rfl (pi_range1 rfl M.n_range (pa_c (pC (pI (K:=K) rfl) rQ (rB c_law_draw hr rfl (pa_c (pv 0) (pa_c rQ rJ)))) rJ)) (pg_nm 3 sc_sLknotty.nd) (pssi_cons (psi_sti 6 sc_sLknotty.nd (pei_ix (rA (K:=K) rfl) (pei_lst (pai_ci pl_iiii (pai_ci pl_iiii (pai_ci pl_iiii (pai_ci pl_ini (pai_ci pl_iiiii pai_nil rfl) rfl) rfl) rfl) rfl)) (rB c_law_draw hr rfl (pa_c (pv 0) (pa_c rQ rJ))) (fun _ _=>rfl)))
   (pssi_one (psi_of (ps_st 1 sc_sLknotty.nd (rB c_law_put_in hr rfl (pa_c (pv 1) (pa_c (rB c_law_draw hr rfl (pa_c (pv 0) (pa_c (rE (call_lenA (K:=K) rfl) rfl M.n_len PySem.boot_len (pa_c (pv 1) rJ)) rJ))) (pa_c (pv 6) rJ)))))))))))
   (pssi_cons (psi_if (pt_cmpR (op_eqA (K:=K) rfl hr.units) (rB c_law_draw hr rfl (pa_c (pv 0) (pa_c rQ rJ))) rQ (nomark _)) (pssi_cons (psi_sti 6 sc_sLknotty.nd (pei_ix (rA (K:=K) rfl) (pei_lst (pai_ci pl_ini (pai_ci pl_iiii (pai_ci pl_iii pai_nil rfl) rfl) rfl)) (rB c_law_draw hr rfl (pa_c (pv 0) (pa_c rQ rJ))) (fun _ _=>rfl)))
   (pssi_one (psi_of (ps_st 1 sc_sLknotty.nd (rB c_law_put_in hr rfl (pa_c (pv 1) (pa_c (rB c_law_draw hr rfl (pa_c (pv 0) (pa_c (rE (call_lenA (K:=K) rfl) rfl M.n_len PySem.boot_len (pa_c (pv 1) rJ)) rJ))) (pa_c (pv 6) rJ)))))))) pssi_nil)
   (pssi_one (psi_of (ps_ret (pv 1)))))))),
  bodyIO_ok (N:=["_law_deal_here","_law_numbers_here","_law_many","_law_k","_law_inner","_law_pair","_law_block_here"]) (rD (rH (rd_lst (rC (rN _) (rC (rN _) rK))))
   (rD (rs_if (rd_test (rW ro_eqA (rd_io (rC (rN _) rK)) (rN _))) (rD (rH (rW ro_ix (rd_lst (rC (rN _) (rC (rN _) (rC (rN _) (rC (rN _) rK))))) (rd_io (rC (rN _) rK))))
   (rs_for (ri_rng1 (rC (rV 2) rK)) (rg_name 3) (rD (rH (rd_lst (rC (rN _) (rC (rN _) (rC (rN _) (rC (rN _) rK))))))
   (rD (rs_if (rd_andT (rd_test (rW ro_ltA (rV 2) (rN _))) (rd_test (rW ro_eqA (rd_io (rC (rN _) rK)) (rN _)))) (rH (rd_call (rC (rW ro_ix (rd_lst (rC (rd_lst (rC (rN _) (rC (rd_un ru_neg (rN _)) (rC (rN _) rK)))) (rC (rd_lst (rC (rN _) (rC (rN _) (rC (rN _) rK)))) rK))) (rd_io (rC (rN _) rK))) (rC (rd_io (rC (rN _) rK)) (rC (rV 4) rK))))) rs_next)
   (rD (rH (rd_call (rC (rd_lst (rC (rN _) (rC (rN _) (rC (rN _) (rC (rN _) rK))))) (rC (rW pV (rN _) (rd_io (rC (rN _) rK))) (rC (rV 4) rK)))))
   (rH (rd_call (rC (rV 1) (rC (rW ro_sub (rd_cb rc_len (rC (rV 1) rK)) (rN _)) (rC (rV 5) rK)))))))))) (rs_for (ri_rng1 (rC (rW pV (rN _) (rd_io (rC (rN _) rK))) rK)) (rg_name 3) (rD (rH (rW ro_ix (rd_lst (rC (rd_lst (rC (rN _) (rC (rN _) (rC (rN _) (rC (rN _) rK))))) (rC (rd_lst (rC (rN _) (rC (rN _) (rC (rN _) (rC (rN _) rK))))) (rC (rd_lst (rC (rN _) (rC (rN _) (rC (rN _) (rC (rN _) rK))))) (rC (rd_lst (rC (rN _) (rC (rd_un ru_neg (rN _)) (rC (rN _) rK)))) (rC (rd_lst (rC (rN _) (rC (rN _) (rC (rN _) (rC (rN _) (rC (rN _) rK)))))) rK)))))) (rd_io (rC (rN _) rK))))
   (rH (rd_call (rC (rV 1) (rC (rd_io (rC (rd_cb rc_len (rC (rV 1) rK)) rK)) (rC (rV 6) rK))))))))
   (rD (rs_if (rd_test (rW ro_eqA (rd_io (rC (rN _) rK)) (rN _))) (rD (rH (rW ro_ix (rd_lst (rC (rd_lst (rC (rN _) (rC (rd_un ru_neg (rN _)) (rC (rN _) rK)))) (rC (rd_lst (rC (rN _) (rC (rN _) (rC (rN _) (rC (rN _) rK))))) (rC (rd_lst (rC (rN _) (rC (rN _) (rC (rN _) rK)))) rK)))) (rd_io (rC (rN _) rK))))
   (rH (rd_call (rC (rV 1) (rC (rd_io (rC (rd_cb rc_len (rC (rV 1) rK)) rK)) (rC (rV 6) rK)))))) rs_next)
   (rs_ret (rV 1))))) h⟩
theorem ok_law_is_span (F : Fun K "_law_is_span" "_law_is_span" sLisspan f0 fd) (M : Md mg)  : FnOk P w K mg base CX0 1 f0 fd ["_law_numbers_here", "_law_s", "_law_e"] (spV K G_law_is_span) := by
  refine F.ok sc_sLisspan (fun vs H Q E h => lenV h) (fun cdv A outer s H vs Q E hr h => ?_)
  exact ⟨_, (rX (ps_st 3 sc_sLisspan.nd (rE (call_sortD (K := K) rfl hr) rfl M.n_sorted boot_sorted (pa_c (pe_comp (blk_mk (osc := (defScope sLisspan)) (ON := ["_law_numbers_here", "_law_s", "_law_e", "_law_some"]) (N := ["_law_number"]) (k := 1) (caps := []) (by decide +kernel) rfl rfl) rfl (pi_any (K := K) rfl (pe_slice (sl_any (K := K) rfl) (pv 0) (po_some (pv 1)) (po_some (pC (pI (K := K) rfl) (pv 2) rQ)))) (fun _ _ _ _ => (pg_nm 0 (by show (["_law_number"] : List Str).Nodup; decide +kernel))) (fun _ _ _ _ => pif_nil) (fun _ _ _ _ => (rE call_abs rfl M.n_abs PyProof.Rows.boot_abs (pa_c (pv 0) rJ)))) rJ)))
      (rX (ps_if (pt_cmpR (op_neD (K := K) rfl hr.units) (pv 3) (pe_callTy (call_listR rfl) rfl M.n_list boot_list' (pa_c (pe_rngO2 rfl M.n_range (pa_c (pe_ix (rA (K := K) rfl) (pv 3) rQ (fun _ _ => rfl)) (pa_c (pC (pI (K := K) rfl) (pC op_sub (pC (pI (K := K) rfl) (pe_ix (rA (K := K) rfl) (pv 3) rQ (fun _ _ => rfl)) (pv 2)) (pv 1)) rQ) rJ))) rJ)) (nomark _)) (rY (ps_ret pe_bl)) pss_nil)
      (rX (ps_if (pt_cmpR (op_eqD (K := K) rfl hr.units) (pe_ix (rA (K := K) rfl) (pv 0) (pv 1) (fun _ _ => rfl)) (pe_ix (rA (K := K) rfl) (pv 3) rQ (fun _ _ => rfl)) (nomark _)) (rY (ps_ret (pe_cmpR (op_eqD (K := K) rfl hr.units) (pe_ix (rA (K := K) rfl) (pv 0) (pv 2) (fun _ _ => rfl)) (pe_ix (rA (K := K) rfl) (pv 3) (pe_un un_neg rQ) (fun _ _ => rfl)) (nomark _)))) pss_nil)
      (rY (ps_ret (pe_and (pe_cmpR (op_eqD (K := K) rfl hr.units) (pe_ix (rA (K := K) rfl) (pv 0) (pv 1) (fun _ _ => rfl)) (pC op_sub rQ (pe_ix (rA (K := K) rfl) (pv 3) (pe_un un_neg rQ) (fun _ _ => rfl))) (nomark _)) (pe_one (pe_cmpR (op_eqD (K := K) rfl hr.units) (pe_ix (rA (K := K) rfl) (pv 0) (pv 2) (fun _ _ => rfl)) (pC op_sub rQ (pe_ix (rA (K := K) rfl) (pv 3) rQ (fun _ _ => rfl))) (nomark _))))))))),
    body_ok (N := ["_law_numbers_here", "_law_s", "_law_e", "_law_some"]) (rD (rH (rd_cb rc_sortD (rC (rd_comp (ri_any (rd_slice rsl_any (rV 0) (rdo_part (rV 1)) (rdo_part (rW pV (rV 2) (rN _))))) (rg_name 0) (by decide) rd_yes (rd_cb rc_abs (rC (rV 0) rK))) rK)))
      (rD (rs_if (rd_test (rW ro_neD (rV 3) (rd_lr2 (rC (rW ro_ix (rV 3) (rN _)) (rC (rW pV (rW ro_sub (rW pV (rW ro_ix (rV 3) (rN _)) (rV 2)) (rV 1)) (rN _)) rK))))) (rs_ret (rd_bl _)) rs_next)
      (rD (rs_if (rd_test (rW ro_eqD (rW ro_ix (rV 0) (rV 1)) (rW ro_ix (rV 3) (rN _)))) (rs_ret (rW ro_eqD (rW ro_ix (rV 0) (rV 2)) (rW ro_ix (rV 3) (rd_un ru_neg (rN _))))) rs_next)
      (rs_ret (rd_andV (rW ro_eqD (rW ro_ix (rV 0) (rV 1)) (rW ro_sub (rN _) (rW ro_ix (rV 3) (rd_un ru_neg (rN _))))) (rW ro_eqD (rW ro_ix (rV 0) (rV 2)) (rW ro_sub (rN _) (rW ro_ix (rV 3) (rN _))))))))) h⟩
theorem ok_law_wholes (F : Fun K "_law_wholes" "_law_wholes" sLwholes f0 fd) (M : Md mg) (c_law_is_span : Cal P w K mg base "_law_is_span" 1 ["_law_numbers_here", "_law_s", "_law_e"] (spV K G_law_is_span)) : FnOk P w K mg base CX0 2 f0 fd ["_law_numbers_here"] (spV K G_law_wholes) := by
  refine F.ok sc_sLwholes (fun vs H Q E h => lenV h) (fun cdv A outer s H vs Q E hr h => ?_)
  exact ⟨_, (rX (ps_st 1 sc_sLwholes.nd pe_dnewT)
      (rX (ps_for PassesOwn.never rfl (pi_range1 rfl M.n_range (pa_c (rE (call_lenA (K := K) rfl) rfl M.n_len PySem.boot_len (pa_c (pv 0) rJ)) rJ)) (pg_nm 2 sc_sLwholes.nd) (rY (ps_for PassesOwn.never rfl (pi_range2 rfl M.n_range (pa_c (pC (pI (K := K) rfl) (pv 2) rQ) (pa_c (rE (call_lenA (K := K) rfl) rfl M.n_len PySem.boot_len (pa_c (pv 0) rJ)) rJ))) (pg_nm 3 sc_sLwholes.nd) (rY (ps_if (pt_val (rB c_law_is_span hr rfl (pa_c (pv 0) (pa_c (pv 2) (pa_c (pv 3) rJ))))) (rY (ps_asg pe_bl (pg_sub (pv 1) (pe_tup (pa_c (pv 2) (pa_c (pv 3) rJ))) (set_dictD (hu_of hr))))) pss_nil)))))
      (rX (ps_st 4 sc_sLwholes.nd (pe_lst rJ))
      (rX (ps_for PassesOwn.never rfl (pi_dict (pv 1)) (pg_tupK (K := K) (n := 2) rfl rfl (pgs_cons (pg_nm 2 sc_sLwholes.nd) (pgs_cons (pg_nm 3 sc_sLwholes.nd) pgs_nil))) (rY (ps_if (pt_not (pt_val (rE (call_any (K := K) rfl rfl) rfl M.n_any PyProof.Rows.boot_any (pa_c (pe_comp (blk_mk (osc := (defScope sLwholes)) (ON := ["_law_numbers_here", "_law_spans", "_law_s", "_law_e", "_law_found"]) (N := ["_law_m", "_law_spans", "_law_s", "_law_e"]) (k := 1) (caps := [1, 2, 3]) (by decide +kernel) rfl rfl) rfl (pi_range2 rfl M.n_range (pa_c (pC (pI (K := K) rfl) (pv 2) rQ) (pa_c (pv 3) rJ))) (fun _ _ _ _ => (pg_nm 0 (by show (["_law_m", "_law_spans", "_law_s", "_law_e"] : List Str).Nodup; decide +kernel))) (fun _ _ _ _ => pif_nil) (fun _ _ _ _ => (pe_and (pe_cmpR (op_din (hu_of hr)) (pe_tup (pa_c (pv 2) (pa_c (pv 0) rJ))) (pv 1) (by with_unfolding_all rfl)) (pe_one (pe_cmpR (op_din (hu_of hr)) (pe_tup (pa_c (pv 0) (pa_c (pv 3) rJ))) (pv 1) (by with_unfolding_all rfl)))))) rJ)))) (rY (ps_expr (pe_bm PySem.F.plainAttrs_list PySem.F.slot_list_append PySem.F.type_list_append mt_append (pv 4) (pa_c (pe_tup (pa_c (pv 2) (pa_c (pv 3) rJ))) rJ)))) pss_nil)))
      (rY (ps_ret (pv 4))))))),
    body_ok (N := ["_law_numbers_here", "_law_spans", "_law_s", "_law_e", "_law_found"]) (rD (rH rd_dnewT)
      (rD (rs_for (ri_rng1 (rC (rd_cb rc_len (rC (rV 0) rK)) rK)) (rg_name 2) (rs_for (ri_rng2 (rC (rW pV (rV 2) (rN _)) (rC (rd_cb rc_len (rC (rV 0) rK)) rK))) (rg_name 3) (rs_if (rd_tB (rd_callS (rC (rV 0) (rC (rV 2) (rC (rV 3) rK))))) (rs_put rset_dict (rd_bl _) (rd_tup (rC (rV 2) (rC (rV 3) rK)))) rs_next)))
      (rD (rH (rd_lst rK))
      (rD (rs_for (ri_dict (rV 1)) (rg_tup (rgs_cons (rg_name 2) (rgs_cons (rg_name 3) rgs_nil))) (rs_if (rd_notT (rd_tB (rd_cb rc_any (rC (rd_comp (ri_rng2 (rC (rW pV (rV 2) (rN _)) (rC (rV 3) rK))) (rg_name 0) (by decide) rd_yes (rd_andV (rW (ro_din false) (rd_tup (rC (rV 2) (rC (rV 0) rK))) (rV 1)) (rW (ro_din false) (rd_tup (rC (rV 0) (rC (rV 3) rK))) (rV 1)))) rK)))) (rs_drop (rd_m rm_append (rC (rd_tup (rC (rV 2) (rC (rV 3) rK))) rK))) rs_next))
      (rs_ret (rV 4)))))) h⟩
theorem ok_law_is_knot (F : Fun K "_law_is_knot" "_law_is_knot" sLisknot f0 fd) (M : Md mg)  : FnOk P w K mg base CX0 1 f0 fd ["_law_numbers_here", "_law_wholes_here", "_law_span"] (spV K G_law_is_knot) := by
  refine F.ok sc_sLisknot (fun vs H Q E h => lenV h) (fun cdv A outer s H vs Q E hr h => ?_)
  exact ⟨_, (rX (ps_st 3 sc_sLisknot.nd (pe_lst rJ))
      (rX (ps_for PassesOwn.never rfl (pi_range2 rfl M.n_range (pa_c (pe_ix (rA (K := K) rfl) (pv 2) rQ (fun _ _ => rfl)) (pa_c (pe_ix (rA (K := K) rfl) (pv 2) rQ (fun _ _ => rfl)) rJ))) (pg_nm 4 sc_sLisknot.nd) (rX (ps_cmp 5 (blk_mk (osc := (defScope sLisknot)) (ON := ["_law_numbers_here", "_law_wholes_here", "_law_span", "_law_sides", "_law_k", "_law_inner"]) (N := ["_law_one", "_law_k", "_law_span"]) (k := 1) (caps := [4, 2]) (by decide +kernel) rfl rfl) rfl sc_sLisknot.nd (pi_any (K := K) rfl (pv 1)) (fun _ _ _ _ => (pg_nm 0 (by show (["_law_one", "_law_k", "_law_span"] : List Str).Nodup; decide +kernel))) (fun _ _ _ _ => pif_one (PW.pt (pw_and (pt_chN (pe_ix (rA (K := K) rfl) (pv 2) rQ (fun _ _ => rfl)) (pcht_link op_le (pe_ix (rA (K := K) rfl) (pv 0) rQ (fun _ _ => rfl)) (pcht_link op_le (pv 1) (pcht_link op_ltA (pe_ix (rA (K := K) rfl) (pv 0) rQ (fun _ _ => rfl)) (pcht_last op_le (pe_ix (rA (K := K) rfl) (pv 2) rQ (fun _ _ => rfl))))))) (pw_and1 (pt_cmpR (op_neD (K := K) rfl hr.units) (pv 0) (pv 2) (nomark _)))))) (fun _ _ _ _ => (pv 0)))
      (rY (ps_if (PW.pt (pw_and (pt_cmpR (op_eqD (K := K) rfl hr.units) (pv 5) (pe_lst rJ) (nomark _)) (pw_and1 (pt_cmpR (op_neD (K := K) rfl hr.units) (pC op_sub (pe_ix (rA (K := K) rfl) (pv 0) (pC (pI (K := K) rfl) (pv 4) rQ) (fun _ _ => rfl)) (pe_ix (rA (K := K) rfl) (pv 0) (pv 4) (fun _ _ => rfl))) rQ (nomark _))))) (rY (ps_st 3 sc_sLisknot.nd (pC (pI (K := K) rfl) (pv 3) (pe_lst (pa_c (pe_callTy call_int1 rfl M.n_int boot_int' (pa_c (pe_cmpR op_ltA (pe_ix (rA (K := K) rfl) (pv 0) (pv 4) (fun _ _ => rfl)) rQ (nomark _)) rJ)) (pa_c (pe_callTy call_int1 rfl M.n_int boot_int' (pa_c (pe_cmpR op_ltA (pe_ix (rA (K := K) rfl) (pv 0) (pC (pI (K := K) rfl) (pv 4) rQ) (fun _ _ => rfl)) rQ (nomark _)) rJ)) rJ)))))) pss_nil))))
      (rY (ps_ret (pe_and (pe_cmpR op_gt (rE (call_lenA (K := K) rfl) rfl M.n_len PySem.boot_len (pa_c (pv 3) rJ)) rQ (nomark _)) (pe_one (pe_cmpR (op_inD (K := K) rfl hr.units) (rE (call_sum (K := K) rfl rfl) rfl M.n_sum PyProof.Rows.boot_sum (pa_c (pv 3) rJ)) (pe_tup (pa_c rQ (pa_c (rE (call_lenA (K := K) rfl) rfl M.n_len PySem.boot_len (pa_c (pv 3) rJ)) rJ))) (by with_unfolding_all rfl)))))))),
    body_ok (N := ["_law_numbers_here", "_law_wholes_here", "_law_span", "_law_sides", "_law_k", "_law_inner"]) (rD (rH (rd_lst rK))
      (rD (rs_for (ri_rng2 (rC (rW ro_ix (rV 2) (rN _)) (rC (rW ro_ix (rV 2) (rN _)) rK))) (rg_name 4) (rD (rH (rd_comp (ri_any (rV 1)) (rg_name 0) (by decide) (rd_andT (rd_test (rd_chN (rW ro_ix (rV 2) (rN _)) (rch_link ro_le (rW ro_ix (rV 0) (rN _)) (rch_link ro_le (rV 1) (rch_link ro_ltA (rW ro_ix (rV 0) (rN _)) (rch_last ro_le (rW ro_ix (rV 2) (rN _)))))))) (rd_test (rW ro_neD (rV 0) (rV 2)))) (rV 0)))
      (rs_if (rd_andT (rd_test (rW ro_eqD (rV 5) (rd_lst rK))) (rd_test (rW ro_neD (rW ro_sub (rW ro_ix (rV 0) (rW pV (rV 4) (rN _))) (rW ro_ix (rV 0) (rV 4))) (rN _)))) (rH (rW pV (rV 3) (rd_lst (rC (rd_cb rc_int1 (rC (rW ro_ltA (rW ro_ix (rV 0) (rV 4)) (rN _)) rK)) (rC (rd_cb rc_int1 (rC (rW ro_ltA (rW ro_ix (rV 0) (rW pV (rV 4) (rN _))) (rN _)) rK)) rK))))) rs_next)))
      (rs_ret (rd_andV (rW ro_gt (rd_cb rc_len (rC (rV 3) rK)) (rN _)) (rW ro_inD (rd_cb rc_sum (rC (rV 3) rK)) (rd_tup (rC (rN _) (rC (rd_cb rc_len (rC (rV 3) rK)) rK)))))))) h⟩
theorem ok_law_right (F : Fun K "_law_right" "_law_right" sLright f0 fd) (M : Md mg) (c_knots_of : Cal P w K mg base "knots_of" 5 ["numbers"] (spV K G_knots_of)) (c_law_wholes : Cal P w K mg base "_law_wholes" 2 ["_law_numbers_here"] (spV K G_law_wholes)) (c_law_is_knot : Cal P w K mg base "_law_is_knot" 1 ["_law_numbers_here", "_law_wholes_here", "_law_span"] (spV K G_law_is_knot)) : FnOk P w K mg base CX0 6 f0 fd ["_law_numbers_here"] (spV K G_law_right) := by
  refine F.ok sc_sLright (fun vs H Q E h => lenV h) (fun cdv A outer s H vs Q E hr h => ?_)
  exact ⟨_, (rX (ps_st 1 sc_sLright.nd (pe_callTy (call_listA (K := K) rfl rfl) rfl M.n_list boot_list' (pa_c (pv 0) rJ)))
      (rX (ps_st 2 sc_sLright.nd (rB c_law_wholes hr rfl (pa_c (pv 0) rJ)))
      (rX (ps_cmp 3 (blk_mk (osc := (defScope sLright)) (ON := ["_law_numbers_here", "_law_handed", "_law_wholes_here", "_law_due", "_law_found"]) (N := ["_law_span", "_law_numbers_here", "_law_wholes_here"]) (k := 1) (caps := [0, 2]) (by decide +kernel) rfl rfl) rfl sc_sLright.nd (pi_any (K := K) rfl (pv 2)) (fun _ _ _ _ => (pg_nm 0 (by show (["_law_span", "_law_numbers_here", "_law_wholes_here"] : List Str).Nodup; decide +kernel))) (fun _ _ _ _ => pif_one (pt_val (rB c_law_is_knot hr rfl (pa_c (pv 1) (pa_c (pv 2) (pa_c (pv 0) rJ)))))) (fun _ _ _ _ => (pv 0)))
      (rX (ps_st 4 sc_sLright.nd (rB c_knots_of hr rfl (pa_c (pv 1) rJ)))
      (rX (ps_if (PW.pt (pw_or (pt_not (pt_val (rE (call_isinstA (K := K) rfl) rfl M.n_isinstance boot_isinstance (pa_c (pv 4) (pa_c (pe_ty rfl M.n_list boot_list') rJ))))) (pw_or (pt_cmpR (op_neD (K := K) rfl hr.units) (pv 4) (pv 3) (nomark _)) (pw_or1 (pt_cmpR (op_neD (K := K) rfl hr.units) (pv 1) (pv 0) (nomark _)))))) (rY (ps_ret pe_bl)) pss_nil)
      (rX (ps_if (pt_not (pt_val (rE (call_all rfl) rfl M.n_all boot_all (pa_c (pe_comp (blk_mk (osc := (defScope sLright)) (ON := ["_law_numbers_here", "_law_handed", "_law_wholes_here", "_law_due", "_law_found"]) (N := ["_law_span"]) (k := 1) (caps := []) (by decide +kernel) rfl rfl) rfl (pi_listK (K := K) rfl (pv 4)) (fun _ _ _ _ => (pg_nm 0 (by show (["_law_span"] : List Str).Nodup; decide +kernel))) (fun _ _ _ _ => pif_nil) (fun _ _ _ _ => (rE (call_isinstA (K := K) rfl) rfl M.n_isinstance boot_isinstance (pa_c (pv 0) (pa_c (pe_ty rfl M.n_tuple boot_tuple') rJ))))) rJ)))) (rY (ps_ret pe_bl)) pss_nil)
      (rX (ps_expr (pe_bm PySem.F.plainAttrs_list PySem.F.slot_list_append PySem.F.type_list_append mt_append (pv 4) (pa_c rQ rJ)))
      (rX (ps_if (pt_cmpR (op_neD (K := K) rfl hr.units) (rB c_knots_of hr rfl (pa_c (pv 1) rJ)) (pv 3) (nomark _)) (rY (ps_ret pe_bl)) pss_nil)
      (rX (ps_asg (pe_callTy (call_listR rfl) rfl M.n_list boot_list' (pa_c (pe_rngO1 rfl M.n_range (pa_c (rE (call_lenA (K := K) rfl) rfl M.n_len PySem.boot_len (pa_c (pv 0) rJ)) rJ)) rJ)) (pg_slc (pv 1)))
      (rY (ps_ret (pe_cmpR (op_eqD (K := K) rfl hr.units) (rB c_knots_of hr rfl (pa_c (pv 1) rJ)) (pe_lst rJ) (nomark _))))))))))))),
    body_ok (N := ["_law_numbers_here", "_law_handed", "_law_wholes_here", "_law_due", "_law_found"]) (rD (rH (rd_cb rc_listA (rC (rV 0) rK)))
      (rD (rH (rd_call (rC (rV 0) rK)))
      (rD (rH (rd_comp (ri_any (rV 2)) (rg_name 0) (by decide) (rd_tB (rd_callS (rC (rV 1) (rC (rV 2) (rC (rV 0) rK))))) (rV 0)))
      (rD (rH (rd_callP (rC (rV 1) rK)))
      (rD (rs_if (rd_orT (rd_notT (rd_tB (rd_cb rc_isinst (rC (rV 4) (rC (rd_c fun _ _ => .ty _) rK))))) (rd_orT (rd_test (rW ro_neD (rV 4) (rV 3))) (rd_test (rW ro_neD (rV 1) (rV 0))))) (rs_ret (rd_bl _)) rs_next)
      (rD (rs_if (rd_notT (rd_tB (rd_cb rc_all (rC (rd_compG (ri_ow (by decide)) (rg_name 0) (by decide) rd_yes (rd_cb rc_isinst (rC (rV 0) (rC (rd_c fun _ _ => .ty _) rK)))) rK)))) (rs_ret (rd_bl _)) rs_next)
      (rD (rs_drop (rd_m rm_append (rC (rN _) rK)))
      (rD (rs_if (rd_test (rW ro_neD (rd_callP (rC (rV 1) rK)) (rV 3))) (rs_ret (rd_bl _)) rs_next)
      (rD (rs_slc (rd_lr1 (rC (rd_cb rc_len (rC (rV 0) rK)) rK)))
      (rs_ret (rW ro_eqD (rd_callP (rC (rV 1) rK)) (rd_lst rK)))))))))))) h⟩
theorem ok_law_turned (F:Fun K "_law_turned" "_law_turned" sLturned f0 fd) (M:Md mg) :FnOk P w K mg base CX0 1 f0 fd ["_law_numbers_here","_law_i","_law_j"] (spV K G_law_turned):=by
 refine F.ok sc_sLturned (fun vs H Q E h=>lenV h) (fun cdv A outer s H vs Q E hr h=>?_)
 exact⟨_,(rY (ps_ret (pC (pI (K:=K) rfl) (pC (pI (K:=K) rfl) (pe_slice (sl_any (K:=K) rfl) (pv 0) po_none (po_some (pC (pI (K:=K) rfl) (pv 1) rQ))) (pe_comp (blk_mk (osc:=(defScope sLturned)) (ON:=["_law_numbers_here","_law_i","_law_j"]) (N:=["_law_number"]) (k:=1) (caps:=[]) (by decide +kernel) rfl rfl) rfl (pi_revL (K:=K) rfl rfl rfl M.n_reversed (pe_slice (sl_any (K:=K) rfl) (pv 0) (po_some (pC (pI (K:=K) rfl) (pv 1) rQ)) (po_some (pC (pI (K:=K) rfl) (pv 2) rQ)))) (fun _ _ _ _=>(pg_nm 0 (by show(["_law_number"]:List Str).Nodup;decide +kernel))) (fun _ _ _ _=>pif_nil) (fun _ _ _ _=>(pC op_sub rQ (pv 0))))) (pe_slice (sl_any (K:=K) rfl) (pv 0) (po_some (pC (pI (K:=K) rfl) (pv 2) rQ)) po_none)))),
  body_ok (N:=["_law_numbers_here","_law_i","_law_j"]) (rs_ret (rW pV (rW pV (rd_slice rsl_any (rV 0) rdo_no (rdo_part (rW pV (rV 1) (rN _)))) (rd_comp (ri_revL (rd_slice rsl_any (rV 0) (rdo_part (rW pV (rV 1) (rN _))) (rdo_part (rW pV (rV 2) (rN _))))) (rg_name 0) (by decide) rd_yes (rW ro_sub (rN _) (rV 0)))) (rd_slice rsl_any (rV 0) (rdo_part (rW pV (rV 2) (rN _))) rdo_no))) h⟩
theorem ok_law (F:Fun K "law" "law" slaw f0 fd) (M:Md mg) (c_law_deal:Cal P w K mg base "_law_deal" 1 ["_law_script","_law_at"] (spV K G_law_deal)) (c_law_draw:Cal P w K mg base "_law_draw" 1 ["_law_deal_here","_law_many"] (spIO K G_law_draw)) (c_law_numbers:Cal P w K mg base "_law_numbers" 3 ["_law_deal_here","_law_most"] (spIO K G_law_numbers)) (c_law_knotty:Cal P w K mg base "_law_knotty" 3 ["_law_deal_here"] (spIO K G_law_knotty)) (c_law_right:Cal P w K mg base "_law_right" 6 ["_law_numbers_here"] (spV K G_law_right)) (c_law_turned:Cal P w K mg base "_law_turned" 1 ["_law_numbers_here","_law_i","_law_j"] (spV K G_law_turned)):FnOk P w K mg base CX0 7 f0 fd ["_law_script"] (spV K G_law):=by
 refine F.ok sc_slaw (fun vs H Q E h=>lenV h) (fun cdv A outer s H vs Q E hr h=>?_)
 exact⟨_,(rX (ps_for PassesOwn.never rfl (pi_range1 rfl M.n_range (pa_c rQ rJ)) (pg_nm 1 sc_slaw.nd) (rX (ps_st 2 sc_slaw.nd (rB c_law_deal hr rfl (pa_c (pv 0) (pa_c (pv 1) rJ))))
   (rY (ps_if (pt_not (pt_val (rB c_law_right hr rfl (pa_c (rB c_law_numbers hr rfl (pa_c (pv 2) (pa_c (pe_ix (rA (K:=K) rfl) (pe_lst (pa_c (pe_ofi (pei_ix (rA (K:=K) rfl) pl_iiii (rB c_law_draw hr rfl (pa_c (pv 2) (pa_c rQ rJ))) (fun _ _=>rfl))) (pa_c rQ rJ))) (pv 1) (fun _ _=>rfl)) rJ))) rJ)))) (rY (ps_ret pe_bl)) pss_nil))))
   (rX (ps_st 2 sc_slaw.nd (rB c_law_deal hr rfl (pa_c (pv 0) (pa_c rQ rJ))))
   (rX (ps_st 3 sc_slaw.nd (rB c_law_knotty hr rfl (pa_c (pv 2) rJ)))
   (rX (ps_st 4 sc_slaw.nd (rB c_law_draw hr rfl (pa_c (pv 2) (pa_c (pC op_sub (rE (call_lenA (K:=K) rfl) rfl M.n_len PySem.boot_len (pa_c (pv 3) rJ)) rQ) rJ))))
   (rX (ps_st 5 sc_slaw.nd (rB c_law_draw hr rfl (pa_c (pv 2) (pa_c (pC op_sub (rE (call_lenA (K:=K) rfl) rfl M.n_len PySem.boot_len (pa_c (pv 3) rJ)) rQ) rJ))))
   (rY (ps_ret (pe_and (rB c_law_right hr rfl (pa_c (pv 3) rJ)) (pe_one (rB c_law_right hr rfl (pa_c (rB c_law_turned hr rfl (pa_c (pv 3) (pa_c (rE (call_min2 rfl) rfl M.n_min PyProof.Rows.boot_min (pa_c (pv 4) (pa_c (pv 5) rJ))) (pa_c (rE (call_max2 rfl) rfl M.n_max PyProof.Rows.boot_max (pa_c (pv 4) (pa_c (pv 5) rJ))) rJ)))) rJ))))))))))),
  body_ok (N:=["_law_script","_law_k","_law_deal_here","_law_numbers_here","_law_i","_law_j"]) (rD (rs_for (ri_rng1 (rC (rN _) rK)) (rg_name 1) (rD (rH (rd_call (rC (rV 0) (rC (rV 1) rK))))
   (rs_if (rd_notT (rd_tB (rd_callS (rC (rd_io (rC (rW ro_ix (rd_lst (rC (rW ro_ix (rd_lst (rC (rN _) (rC (rN _) (rC (rN _) (rC (rN _) rK))))) (rd_io (rC (rN _) rK))) (rC (rN _) rK))) (rV 1)) rK)) rK)))) (rs_ret (rd_bl _)) rs_next)))
   (rD (rH (rd_call (rC (rV 0) (rC (rN _) rK))))
   (rD (rH (rd_io rK))
   (rD (rH (rd_io (rC (rW ro_sub (rd_cb rc_len (rC (rV 3) rK)) (rN _)) rK)))
   (rD (rH (rd_io (rC (rW ro_sub (rd_cb rc_len (rC (rV 3) rK)) (rN _)) rK)))
   (rs_ret (rd_andV (rd_callS (rC (rV 3) rK)) (rd_callS (rC (rd_call (rC (rV 3) (rC (rd_cb rc_min2 (rC (rV 4) (rC (rV 5) rK))) (rC (rd_cb rc_max2 (rC (rV 4) (rC (rV 5) rK))) rK)))) rK))))))))) h⟩
end
end K43
namespace VF
open PySem L2
theorem mul_ev {i j:Int} (h:CMul i j):bMul (.int i) (.int j)=some (.int (i*j),false):=by
 have:bMulI (.int i) (.int j)=some (.int (i*j),false):=by
  show(if CMul i j then some (D.int (i*j),false) else none)=_;rw[if_pos h]
 unfold bMul orD;rw[this]
theorem mod_ev {i j:Int} (h:0<j):bMod (.int i) (.int j)=some (.int (i % j),false):=by
 show(if 0<j then some (D.int (i % j),false) else none)=_;rw[if_pos h]
theorem div_ev {i j:Int} (h:CDiv i j):bDiv (.int i) (.int j)=some (.int (i / j),false):=by
 show(if CDiv i j then some (D.int (i / j),false) else none)=_;rw[if_pos h]
theorem ix_lst {ds:List D} {i:Int} {d:D} (h:atI ds i=some d):bIx (.lst ds) (.int i)=some (d,false):=by
 have:bIxL (.lst ds) (.int i)=some (d,false):=by
  show(atI ds i).bind (fun d=>some (d,false))=_;rw[h];rfl
 unfold bIx orD;rw[this]
theorem ix_tup {ds:List D} {i:Int} {d:D} (h:atI ds i=some d):bIx (.tup ds) (.int i)=some (d,false):=by
 have e1:bIxL (.tup ds) (.int i)=none:=rfl;have:bIxT (.tup ds) (.int i)=some (d,false):=by
  show(atI ds i).bind (fun d=>some (d,false))=_;rw[h];rfl
 unfold bIx orD;rw[e1,this]
theorem of_b {f:FT} {st s:En} {b c:Bool} (h:f st=some (b,s)) (e:b=c):f st=some (c,s):=e ▸ h
theorem put_ev {mm:D->D->D->Option D} {fe fi:FE} {i:Nat} {st s1 s2 s3:En} {r rk:Rs} {dv dk z z':D} {t t0:Sl} {x0:D} (h1:fe st=some (r,s1)) (h2:esc r s1=some (dv,s2)) (h0:s2[i]?=some t0) (h00:t0.ow=some x0) (h3:fi s2=some (rk,s3)) (h4:cont s3 rk=some dk) (h5:s3[i]?=some t) (h6:t.ow=some z) (h7:mm z dk dv=some z') {s4:En} (h8:s3.set i (t.put z')=s4:=by rfl):sPut mm fe i fi st=some (.nx s4):=by
 simp only[sPut,h1,h2,h0,h00,h3,h4,h5,h6,h7,h8,Option.bind_some]
end VF
namespace VF
open PySem L2
section
variable {st s s1 s2:En} {r ry:Rs} {d1 d2:D} {fe fa:FE}
theorem oPart_ev {i:Int} (h:fe st=some (r,s)) (h2:cont s r=some (.int i)):oPart fe st=some (some i,s):=by
 simp only[oPart,h,Option.bind_some,asInt,h2]
end
theorem few2 {l:List D} {n:Nat} (hl:l.length<=n) {b:Bool} (hb:b=true) (hn:n<=1000000:=by decide):(b&&decide (l.length<=1000000))=true:=by rw[hb,decide_eq_true (by omega)];rfl
theorem eqI_ev {i j:Int}:bEq (.int i) (.int j)=some (.bl (decide (i=j)),false):=by
 show some (D.bl (decide (V.int i=V.int j)),false)=_;by_cases h:i=j
 ·subst h;simp
 ·rw[decide_eq_false h,decide_eq_false (fun z=>h (V.int.inj z))]
theorem neI_ev {i j:Int}:bNe (.int i) (.int j)=some (.bl (!decide (i=j)),false):=by
 show some (D.bl (!decide (V.int i=V.int j)),false)=_;by_cases h:i=j
 ·subst h;simp
 ·rw[decide_eq_false h,decide_eq_false (fun z=>h (V.int.inj z))]
theorem eqDI_ev {i j:Int}:bEqD (.int i) (.int j)=some (.bl (decide (i=j)),false):=by
 unfold bEqD orD;rw[eqI_ev]
theorem ix_fl {ds:List D} {i:Int} {d:D} (h:atI ds i=some d):bIx (.fl ds) (.int i)=some (d,false):=by
 have:bIxL (.fl ds) (.int i)=some (d,false):=by
  show(atI ds i).bind (fun d=>some (d,false))=_;rw[h];rfl
 unfold bIx orD;rw[this]
theorem ix_nat {ds:List D} {i:Nat} {d:D} (h:ds[i]?=some d):bIx (.lst ds) (.int i)=some (d,false):=ix_lst (atI_nat h)
theorem ixT_nat {ds:List D} {i:Nat} {d:D} (h:ds[i]?=some d):bIx (.tup ds) (.int i)=some (d,false):=ix_tup (atI_nat h)
theorem ix_last {ds:List D} {d:D}:bIx (.lst (ds++[d])) (.int (-1))=some (d,false):=ix_lst (by
 unfold atI ixN;rw[List.length_append,List.length_singleton,if_neg (by omega),if_pos (by omega)]
 show(ds++[d])[((-1:Int)+((ds.length+1:Nat):Int)).toNat]?=_;have:((-1:Int)+((ds.length+1:Nat):Int)).toNat=ds.length:=by omega
 rw[this];simp)
theorem slc_ev {fe:FE} {i:Nat} {st s1 s2 s3:En} {r:Rs} {dv z z':D} {t:Sl} (h1:fe st=some (r,s1)) (h2:esc r s1=some (dv,s2)) (h3:s2[i]?=some t) (h4:t.ow=some z) (h5:VF22.slcD z dv=some z') (h6:s2.set i (t.put z')=s3:=by rfl):VF22.sSlc fe i st=some (.nx s3):=by
 simp only[VF22.sSlc,h1,h2,h3,h4,h5,h6,Option.bind_some]
theorem lr1_ev {fa:FA} {st s:En} {rs:List Rs} {j:Int} (h1:fa st=some (rs,s)) (h2:contAll s rs=some [.int j]) (h3:VF22.RB 0 j):VF22.fLR1 fa st=some (.f (.lst (rng 0 (j-0).toNat)),s):=by
 simp only[VF22.fLR1,h1,h2,Option.bind_some,oneI];rw[if_pos h3]
theorem lr2_ev {fa:FA} {st s:En} {rs:List Rs} {i j:Int} (h1:fa st=some (rs,s)) (h2:contAll s rs=some [.int i,.int j]) (h3:VF22.RB i j):VF22.fLR2 fa st=some (.f (.lst (rng i (j-i).toNat)),s):=by
 simp only[VF22.fLR2,h1,h2,Option.bind_some,twoI];rw[if_pos h3]
theorem lst_ev {fa:FA} {st s1 s2:En} {rs:List Rs} {ds:List D} (h1:fa st=some (rs,s1)) (h2:escAll rs s1=some (ds,s2)) (h3:ds.length<=1000000):fLst fa st=some (.f (.lst ds),s2):=by
 simp only[fLst,h1,h2,Option.bind_some];rw[if_pos h3]
theorem rvl_ev {fe:FE} {st s1 s2:En} {r:Rs} {ds:List D} (h1:fe st=some (r,s1)) (h2:esc r s1=some (.lst ds,s2)):VF22.fIRvL fe st=some (ds.reverse,s2):=by
 simp only[VF22.fIRvL,h1,h2,Option.bind_some,VF22.lstD]
theorem app_ev {xs:List D} {y:D} (h:xs.length<1000000):mAppend (.lst xs) [y]=some (.non,.lst (xs++[y])):=by
 show(if xs.length<1000000 then some (D.non,D.lst (xs++[y])) else none)=_;rw[if_pos h]
end VF
namespace K43
open PySem L2 VF VF22
noncomputable def Dl (m s:Int):D:=.lst [.int m,.int s]
noncomputable def DlOk (δ:D):Prop:=∃m s,δ=Dl m s/\0<=m/\1<=s/\s<=2147483646
theorem draw_ok {δ:D} {n:Int} (hδ:DlOk δ) (h0:0<n) (h1:n<=1000):∃d δ',G_law_draw δ [.int n]=some ((.int d,false),δ')/\0<=d/\d<n/\DlOk δ':=by
 obtain⟨m,s,rfl,hm,hs1,hs2⟩:=hδ;by_cases c1:0<m
 ·refine⟨m % n,Dl (m / n) s,?_,Int.emod_nonneg _ (by omega),Int.emod_lt_of_pos _ h0,m / n,s,rfl,Int.ediv_nonneg hm (by omega),hs1,hs2⟩
  refine bodyIO_ev (o:=.rt (.d (.int (m % n))) [.io (Dl (m / n) s),.v (.int n),.v (.int (m % n)),.e]) rfl ?_ rfl;refine seq_rt (if_t (of_b (b:=decide (0<m)) (s:=[.io (Dl m s),.v (.int n),.e,.e]) rfl (decide_eq_true c1)) ?_);refine rM (s:=[.io (Dl m s),.v (.int n),.v (.int (m % n)),.e]) (set_d (rL rfl rfl rfl rfl (mod_ev h0)) rfl) ?_;refine rM (s:=[.io (Dl (m / n) s),.v (.int n),.v (.int (m % n)),.e]) (put_ev (rL rfl rfl rfl rfl (div_ev ⟨h0,by omega⟩)) rfl rfl rfl rfl rfl rfl rfl rfl) ?_
  rfl
 ·have a1:=Int.emod_nonneg (s*16807) (show(2147483647:Int)≠0 by decide)
  have a2:=Int.emod_lt_of_pos (s*16807) (show(0:Int)<2147483647 by decide)
  have b1:=Int.emod_nonneg ((s*16807 % 2147483647)*48271+30103) (show(2147483646:Int)≠0 by decide)
  have b2:=Int.emod_lt_of_pos ((s*16807 % 2147483647)*48271+30103) (show(0:Int)<2147483646 by decide)
  have c1':=Int.emod_nonneg ((s*16807 % 2147483647)*(s*16807 % 2147483647)) (show(2147483629:Int)≠0 by decide)
  have c2':=Int.emod_lt_of_pos ((s*16807 % 2147483647)*(s*16807 % 2147483647)) (show(0:Int)<2147483629 by decide)
  refine⟨((s*16807 % 2147483647)*(s*16807 % 2147483647) % 2147483629*2147483563+(((s*16807 % 2147483647)*48271+30103) % 2147483646+1) / 127) % n,Dl m (((s*16807 % 2147483647)*48271+30103) % 2147483646+1),?_,Int.emod_nonneg _ (by omega),Int.emod_lt_of_pos _ h0,m,_,rfl,hm,by omega,by omega⟩
  generalize e1:s*16807 % 2147483647=o at *;generalize e2:(o*48271+30103) % 2147483646+1=t at *;refine bodyIO_ev (o:=.rt (.d (.int ((o*o % 2147483629*2147483563+t / 127) % n))) [.io (Dl m t),.v (.int n),.e,.v (.int o)]) rfl ?_ rfl;refine rM (if_f (of_b (b:=decide (0<m)) (s:=[.io (Dl m s),.v (.int n),.e,.e]) rfl (decide_eq_false c1)) rfl) ?_;refine rM (s:=[.io (Dl m s),.v (.int n),.e,.v (.int o)]) (set_d (x:=.int o) (rL (rL rfl rfl rfl rfl (mul_ev (.inr ⟨by decide,by decide⟩))) rfl rfl rfl (z:=(.int o,false)) (by rw[← e1];rfl)) rfl) ?_
  refine rM (s:=[.io (Dl m t),.v (.int n),.e,.v (.int o)]) (put_ev (dv:=.int t) (r:=.d (.int t)) (rL (rL (rL (rL rfl rfl rfl rfl (mul_ev (.inr ⟨by decide,by decide⟩))) rfl rfl rfl rfl) rfl rfl rfl rfl) rfl rfl rfl (z:=(.int t,false)) (by rw[← e2];rfl)) rfl rfl rfl rfl rfl rfl rfl rfl) ?_
  exact ret_ev (rL (rL (rL (rL (rL rfl rfl rfl rfl (mul_ev (.inl ⟨by omega,by omega⟩))) rfl rfl rfl rfl) rfl rfl rfl (mul_ev (.inr ⟨by decide,by decide⟩))) (rL rfl rfl rfl rfl rfl) rfl rfl rfl) rfl rfl rfl (mod_ev h0))
theorem deal_ok (ns:List Int) {k:Int} (h0:0<=k) (h1:k<=2):∃δ,G_law_deal [.fl (ns.map D.int),.int k]=some (δ,true)/\DlOk δ:=by
 have key:∀c:Int,∃δ,((sSeq (sSet (fC (.int 0)) 3) (sSeq (sIf (fTest (fOp bGe (fVar 2) (fOp bPow (fC (.int 10)) (fC (.int 18))))) (sSet (fVar 2) 3) sNext)
  (sRet (fLst (rZ (fVar 3) (rZ (fOp bAdd (fOp bMod (fOp bAdd (fOp bMul (fOp bMod (fVar 2) (fC (.int 2147483629))) (fC (.int 48271))) (fOp bMul (fC (.int 40692)) (fVar 1))) (fC (.int 2147483646))) (fC (.int 1))) fNil))))))) [.v (.fl (ns.map D.int)),.v (.int k),.v (.int c),.e]=some (.rt (.f δ) [.v (.fl (ns.map D.int)),.v (.int k),.v (.int c),.v (.int (if (10:Int) ^ (18:Int).toNat<=c then c else 0))])/\DlOk δ:=fun c=>by
  have b1:=Int.emod_nonneg (c % 2147483629*48271+40692*k) (show(2147483646:Int)≠0 by decide)
  have b2:=Int.emod_lt_of_pos (c % 2147483629*48271+40692*k) (show(0:Int)<2147483646 by decide)
  have fin:∀m:Int,sRet (fLst (rZ (fVar 3) (rZ (fOp bAdd (fOp bMod (fOp bAdd (fOp bMul (fOp bMod (fVar 2) (fC (.int 2147483629))) (fC (.int 48271))) (fOp bMul (fC (.int 40692)) (fVar 1))) (fC (.int 2147483646))) (fC (.int 1))) fNil))) [.v (.fl (ns.map D.int)),.v (.int k),.v (.int c),.v (.int m)]=some (.rt (.f (Dl m ((c % 2147483629*48271+40692*k) % 2147483646+1))) [.v (.fl (ns.map D.int)),.v (.int k),.v (.int c),.v (.int m)]):=fun m=>by
   refine ret_ev (s:=[.v (.fl (ns.map D.int)),.v (.int k),.v (.int c),.v (.int m)]) ?_;have e:(fOp bAdd (fOp bMod (fOp bAdd (fOp bMul (fOp bMod (fVar 2) (fC (.int 2147483629))) (fC (.int 48271))) (fOp bMul (fC (.int 40692)) (fVar 1))) (fC (.int 2147483646))) (fC (.int 1))) [.v (.fl (ns.map D.int)),.v (.int k),.v (.int c),.v (.int m)]=some (.d (.int ((c % 2147483629*48271+40692*k) % 2147483646+1)),[.v (.fl (ns.map D.int)),.v (.int k),.v (.int c),.v (.int m)]) :=
    rL (rL (rL (rL (rL rfl rfl rfl rfl rfl) rfl rfl rfl (mul_ev (.inr ⟨by decide,by decide⟩))) (rL rfl rfl rfl rfl (mul_ev (.inl ⟨by decide,by decide⟩))) rfl rfl rfl) rfl rfl rfl rfl) rfl rfl rfl rfl
   exact lst_ev (rG rfl (rG e rfl)) rfl (by simp)
  by_cases c3:(10:Int) ^ (18:Int).toNat<=c
  ·have p18:(0:Int)<=10 ^ (18:Int).toNat:=by decide
   refine⟨Dl c ((c % 2147483629*48271+40692*k) % 2147483646+1),?_,c,_,rfl,by omega,by omega,by omega⟩
   rw[if_pos c3];refine rM (s:=[.v (.fl (ns.map D.int)),.v (.int k),.v (.int c),.v (.int 0)]) rfl ?_;refine rM (s:=[.v (.fl (ns.map D.int)),.v (.int k),.v (.int c),.v (.int c)]) (if_t (of_b (b:=decide ((10:Int) ^ (18:Int).toNat<=c)) (s:=[.v (.fl (ns.map D.int)),.v (.int k),.v (.int c),.v (.int 0)]) rfl (decide_eq_true c3)) rfl) (fin c)
  ·refine⟨Dl 0 ((c % 2147483629*48271+40692*k) % 2147483646+1),?_,0,_,rfl,by omega,by omega,by omega⟩
   rw[if_neg c3];refine rM (s:=[.v (.fl (ns.map D.int)),.v (.int k),.v (.int c),.v (.int 0)]) rfl ?_;refine rM (s:=[.v (.fl (ns.map D.int)),.v (.int k),.v (.int c),.v (.int 0)]) (if_f (of_b (b:=decide ((10:Int) ^ (18:Int).toNat<=c)) (s:=[.v (.fl (ns.map D.int)),.v (.int k),.v (.int c),.v (.int 0)]) rfl (decide_eq_false c3)) rfl) (fin 0)
 have first:∃c:Int,(sIf (fTest (fOp bLt (fVar 1) (fCB bLen (rZ (fVar 0) fNil)))) (sSet (fOp bIx (fVar 0) (fVar 1)) 2) (sIf (fTest (fOp bGt (fCB bLen (rZ (fVar 0) fNil)) (fC (.int 0)))) (sSet (fOp bAdd (fOp bMul (fOp bMod (fOp bIx (fVar 0) (fOp bMod (fVar 1) (fCB bLen (rZ (fVar 0) fNil)))) (fC (.int 2147483629))) (fC (.int 31))) (fOp bMul (fC (.int 7919)) (fVar 1))) 2) sNext)) [.v (.fl (ns.map D.int)),.v (.int k),.v (.int (7919*k+1000003)),.e]=some (.nx [.v (.fl (ns.map D.int)),.v (.int k),.v (.int c),.e]):=by
  by_cases c1:k<((ns.map D.int).length:Int)
  ·obtain⟨v,hv,hm',_⟩:=at_mem h0 c1;obtain⟨z,_,rfl⟩:=List.mem_map.mp hm';refine⟨z,if_t (of_b (b:=decide (k<((ns.map D.int).length:Int))) (s:=[.v (.fl (ns.map D.int)),.v (.int k),.v (.int (7919*k+1000003)),.e]) rfl (decide_eq_true c1)) ?_⟩;exact set_d (x:=.int z) (rL rfl rfl rfl rfl (z:=(.int z,false)) (ix_fl hv)) rfl
  ·refine Exists.imp (fun c h=>if_f (of_b (b:=decide (k<((ns.map D.int).length:Int))) (s:=[.v (.fl (ns.map D.int)),.v (.int k),.v (.int (7919*k+1000003)),.e]) rfl (decide_eq_false c1)) h) ?_;by_cases c2:(0:Int)<((ns.map D.int).length:Int)
   ·obtain⟨v,hv,hm',_⟩:=at_mem (xs:=ns.map D.int) (Int.emod_nonneg k (by omega)) (Int.emod_lt_of_pos k c2)
    obtain⟨z,_,rfl⟩:=List.mem_map.mp hm';refine⟨z % 2147483629*31+7919*k,if_t (of_b (b:=decide ((0:Int)<((ns.map D.int).length:Int))) (s:=[.v (.fl (ns.map D.int)),.v (.int k),.v (.int (7919*k+1000003)),.e]) rfl (decide_eq_true c2)) ?_⟩;exact set_d (x:=.int _) (rL (rL (rL (rL rfl (rL rfl rfl rfl rfl (mod_ev c2)) rfl rfl (z:=(.int z,false)) (ix_fl hv)) rfl rfl rfl rfl) rfl rfl rfl (mul_ev (.inr ⟨by decide,by decide⟩))) (rL rfl rfl rfl rfl (mul_ev (.inl ⟨by decide,by decide⟩))) rfl rfl rfl) rfl
   ·exact⟨7919*k+1000003,if_f (of_b (b:=decide ((0:Int)<((ns.map D.int).length:Int))) (s:=[.v (.fl (ns.map D.int)),.v (.int k),.v (.int (7919*k+1000003)),.e]) rfl (decide_eq_false c2)) rfl⟩
 obtain⟨c,ec⟩:=first
 obtain⟨δ,eδ,hδ⟩:=key c;exact⟨δ,body_ev rfl (rM (s:=[.v (.fl (ns.map D.int)),.v (.int k),.v (.int (7919*k+1000003)),.e]) (set_d (rL (rL rfl rfl rfl rfl (mul_ev (.inl ⟨by decide,by decide⟩))) rfl rfl rfl rfl) rfl) (rM ec eδ)) rfl,hδ⟩
theorem nd_map {α β:Type} {f:α->β} {l:List α} (inj:∀a b,f a=f b->a=b) (h:l.Nodup):(l.map f).Nodup:=by
 rw[List.Nodup,List.pairwise_map];exact List.Pairwise.imp (fun hne e=>hne (inj _ _ e)) h
theorem nd_of {α β:Type} {f:α->β} {l:List α} (h:(l.map f).Nodup):l.Nodup:=by
 rw[List.Nodup,List.pairwise_map]at h;exact List.Pairwise.imp (fun hne e=>hne (congrArg f e)) h
theorem nd_inj {α β:Type} {f:α->β}:∀{l:List α},(l.map f).Nodup->∀{x y:α},x∈l->y∈l->f x=f y->x=y
 | [],_,_,_,hx,_,_=>by cases hx
 | a::l,h,x,y,hx,hy,e=>by
  rw[List.map_cons,List.nodup_cons]at h;rcases List.mem_cons.mp hx with h1|h1
  ·rcases List.mem_cons.mp hy with h2|h2
   ·rw[h1,h2]
   ·exact absurd (by rw[← h1,e];exact List.mem_map_of_mem h2) h.1
  ·rcases List.mem_cons.mp hy with h2|h2
   ·exact absurd (by rw[← h2,← e];exact List.mem_map_of_mem h1) h.1
   ·exact nd_inj h.2 h1 h2 e
noncomputable def ab (i:Int):Int:=if i<0 then -i else i
theorem ab_nn (i:Int):0<=ab i:=by unfold ab;split<;>omega
noncomputable def fart (n b:Int):Int:=if n<0 then n-b else n+b
theorem ab_fart {n b:Int} (hb:0<=b):ab (fart n b)=ab n+b:=by
 unfold ab fart;by_cases h:n<0
 ·simp only[if_pos h];split<;>omega
 ·simp only[if_neg h];split<;>omega
noncomputable def putO (h last:Int) (blk:List Int) (n:Int):List Int :=
 if ab h<ab n then [fart n last] else if n≠h then [n] else if 0<=h then blk.map (fart · h) else blk.reverse.map fun p=>0-fart p (0-h)
noncomputable def putF (ns:List Int) (h last:Int) (blk:List Int):List Int:=ns.flatMap (putO h last blk)
structure Nm (c:Int) (ns:List Int):Prop where
 nd:(ns.map ab).Nodup
 le:∀n∈ns,ab n<=c
theorem ab_neg (x:Int):ab (0-x)=ab x:=by unfold ab;split<;>split<;>omega
theorem putO_ab {h last c:Int} {blk:List Int} {n:Int} (B:Nm last blk) (hl:0<=last) (hn:n≠h->ab n≠ab h):((putO h last blk n).map ab).Nodup/\∀x∈putO h last blk n,(ab n<ab h/\ab x=ab n)∨(n=h/\ab h<=ab x/\ab x<=ab h+last)∨(ab h<ab n/\ab x=ab n+last):=by
 unfold putO;by_cases c1:ab h<ab n
 ·rw[if_pos c1];refine⟨by simp,fun x hx=>.inr (.inr ⟨c1,?_⟩)⟩
  rw[List.mem_singleton.mp hx,ab_fart hl]
 ·rw[if_neg c1];by_cases c2:n≠h
  ·rw[if_pos c2];refine⟨by simp,fun x hx=>.inl ⟨?_,by rw[List.mem_singleton.mp hx]⟩⟩
   have:=hn c2;omega
  ·rw[if_neg c2];have e:n=h:=Classical.not_not.mp c2;subst e;by_cases c3:0<=n
   ·rw[if_pos c3];have e:ab n=n:=by unfold ab;rw[if_neg (by omega)]
    have em:(blk.map (fart · n)).map ab=(blk.map ab).map (·+n):=by
     rw[List.map_map,List.map_map];exact List.map_congr_left fun p _=>ab_fart c3
    refine⟨?_,fun x hx=>.inr (.inl ⟨rfl,?_⟩)⟩
    ·rw[em];exact nd_map (fun a b h=>by have h':a+n=b+n:=h;omega) B.nd
    ·obtain⟨p,hp,rfl⟩:=List.mem_map.mp hx;have:=B.le p hp;have:=ab_nn p;rw[ab_fart c3,e];omega
   ·rw[if_neg c3];have e:ab n=0-n:=by unfold ab;rw[if_pos (by omega)];omega
    have em:(blk.reverse.map fun p=>0-fart p (0-n)).map ab=(blk.reverse.map ab).map (·+(0-n)):=by
     rw[List.map_map,List.map_map];exact List.map_congr_left fun p _=>by
      show ab (0-fart p (0-n))=ab p+(0-n);rw[ab_neg,ab_fart (by omega)]
    refine⟨?_,fun x hx=>.inr (.inl ⟨rfl,?_⟩)⟩
    ·rw[em];refine nd_map (fun a b h=>by have h':a+(0-n)=b+(0-n):=h;omega) ?_
     rw[List.map_reverse];exact List.pairwise_reverse.mpr (List.Pairwise.imp (fun h=>Ne.symm h) B.nd)
    ·obtain⟨p,hp,rfl⟩:=List.mem_map.mp hx;have:=B.le p (List.mem_reverse.mp hp);have:=ab_nn p;rw[ab_neg,ab_fart (by omega),e];omega
theorem nd_flat {α β:Type} {f:α->List β} {g:β->Int}:∀{l:List α},(∀x∈l,((f x).map g).Nodup)->l.Pairwise (fun x y=>∀a∈f x,∀b∈f y,g a≠g b)->((l.flatMap f).map g).Nodup
 | [],_,_=>by simp
 | x::r,h1,h2=>by
  rw[List.flatMap_cons,List.map_append];rw[List.pairwise_cons]at h2;refine List.nodup_append.mpr ⟨h1 x List.mem_cons_self,nd_flat (fun y hy=>h1 y (List.mem_cons_of_mem _ hy)) h2.2,fun a ha b hb=>?_⟩;obtain⟨a',ha',rfl⟩:=List.mem_map.mp ha;obtain⟨b',hb',rfl⟩:=List.mem_map.mp hb;obtain⟨y,hy,hb2⟩:=List.mem_flatMap.mp hb';exact h2.1 y hy a' ha' b' hb2
theorem put_nm {ns blk:List Int} {h last c:Int} (N:Nm c ns) (B:Nm last blk) (hl:0<=last) (hh:h∈ns):Nm (c+last) (putF ns h last blk):=by
 have ne:∀n∈ns,n≠h->ab n≠ab h:=fun n hn z e=>by
  exact z (nd_inj N.nd hn hh e)
 refine⟨nd_flat (fun n hn=>(putO_ab (c:=c) B hl (ne n hn)).1) ?_,fun x hx=>?_⟩
 ·have:=N.nd;rw[List.Nodup,List.pairwise_map]at this;refine List.Pairwise.imp_of_mem (fun {a b} ha hb hab x hx y hy=>?_) this;have p:=(putO_ab (c:=c) B hl (ne a ha)).2 x hx;have q:=(putO_ab (c:=c) B hl (ne b hb)).2 y hy;intro e;rcases p with⟨p1,p2⟩|⟨p1,p2,p3⟩|⟨p1,p2⟩<;>rcases q with⟨q1,q2⟩|⟨q1,q2,q3⟩|⟨q1,q2⟩<;>first|omega|(subst p1;first|(subst q1;exact hab rfl)|omega)|(subst q1;omega)
 ·obtain⟨n,hn,hx⟩:=List.mem_flatMap.mp hx;have:=N.le n hn;have:=N.le h hh;rcases(putO_ab (c:=c) B hl (ne n hn)).2 x hx with⟨p1,p2⟩|⟨p1,p2,p3⟩|⟨p1,p2⟩<;>omega
theorem putO_len {h last:Int} {blk:List Int} {n:Int}:(putO h last blk n).length=if n=h then blk.length else 1:=by
 unfold putO;by_cases c1:ab h<ab n
 ·rw[if_pos c1,if_neg (fun z=>by rw[z]at c1;omega)];rfl
 ·rw[if_neg c1];by_cases c2:n≠h
  ·rw[if_pos c2,if_neg c2];rfl
  ·rw[if_neg c2,if_pos (Classical.not_not.mp c2)];split<;>simp
theorem putF_len {ns blk:List Int} {h last:Int} (nd:ns.Nodup) (hh:h∈ns):(putF ns h last blk).length+1=ns.length+blk.length:=by
 unfold putF;induction ns with
 | nil=>cases hh
 | cons n r ih =>
  rw[List.flatMap_cons,List.length_append,putO_len];rw[List.nodup_cons]at nd;have all1:∀l:List Int,h∉l->(l.flatMap (putO h last blk)).length=l.length:=fun l=>by
   induction l with
   | nil=>intro _;rfl
   | cons a l ihl =>
    intro ha;rw[List.flatMap_cons,List.length_append,putO_len,if_neg (fun z=>ha (by rw[z];exact List.mem_cons_self)),ihl (fun z=>ha (List.mem_cons_of_mem _ z)),List.length_cons];omega
  by_cases e:n=h
  ·subst e;rw[if_pos rfl,all1 r nd.1,List.length_cons];omega
  ·rw[if_neg e];have hr:h∈r:=by
    rcases List.mem_cons.mp hh with z|z
    ·exact absurd z.symm e
    ·exact z
   have:=ih nd.2 hr;rw[List.length_cons];omega
noncomputable abbrev IL (xs:List Int):D:=.lst (xs.map D.int)
theorem farther_ev (n b:Int):G_law_farther [.int n,.int b]=some (.int (fart n b),false):=by
 unfold fart;by_cases c:n<0
 ·rw[if_pos c];exact body_ev (o:=.rt (.d (.int (n-b))) [.v (.int n),.v (.int b)]) rfl (seq_rt (if_t (of_b (b:=decide (n<0)) (s:=[.v (.int n),.v (.int b)]) rfl (decide_eq_true c)) rfl)) rfl
 ·rw[if_neg c];exact body_ev (o:=.rt (.d (.int (n+b))) [.v (.int n),.v (.int b)]) rfl (rM (if_f (of_b (b:=decide (n<0)) (s:=[.v (.int n),.v (.int b)]) rfl (decide_eq_false c)) rfl) rfl) rfl
theorem abs_ev (i:Int):b1 gAbs [.int i]=some (.int (ab i),false):=rfl
theorem gt_ev {i j:Int}:bGt (.int i) (.int j)=some (.bl (decide (j<i)),false):=rfl
theorem gN_ev {i:Nat} {d:D} {st st':En} {t:Sl} (h:st[i]?=some t) (hs:t.isIo=false) (h2:st.set i (.v d)=st':=by rfl):gN i d st=some st':=by
 simp only[gN,fPut,h,Option.bind_some,hs,Bool.false_eq_true,if_false,h2]
theorem put_turn {ns b0 acc:List Int} {at_ h last n:Int} (hz:acc.length+(b0.length+1)<=100000) :
  B_law_put_in_1 [.v (IL ns),.v (.int at_),.v (IL (b0++[last])),.v (.int h),.o (IL acc),.v (.int n)]=some (.nx [.v (IL ns),.v (.int at_),.v (IL (b0++[last])),.v (.int h),.o (IL (acc++putO h last (b0++[last]) n)),.v (.int n)]):=by
 unfold putO;have hl:(acc.map D.int).length<1000000:=by rw[List.length_map];omega
 have lb:bIx (IL (b0++[last])) (.int (-1))=some (.int last,false):=by
  rw[show IL (b0++[last])=.lst (b0.map D.int++[.int last]) by simp[IL]];exact ix_last
 by_cases c1:ab h<ab n
 ·rw[if_pos c1];refine if_t (pN (rL (cb_ev rfl rfl (abs_ev n)) (cb_ev rfl rfl (abs_ev h)) rfl rfl gt_ev) (c:=true) (by show some (decide (ab h<ab n))=_;rw[decide_eq_true c1])) ?_
  refine drop_ev (m_ev rfl rfl rfl (rG (callS_ev (rG rfl (rG (rL rfl rfl rfl rfl lb) rfl)) rfl (farther_ev n last) rfl) rfl) rfl rfl rfl (app_ev hl) (by show [_,_,_,_,Sl.o _,_]=[_,_,_,_,Sl.o _,_];simp))
 ·rw[if_neg c1];refine if_f (pN (rL (cb_ev rfl rfl (abs_ev n)) (cb_ev rfl rfl (abs_ev h)) rfl rfl gt_ev) (c:=false) (by show some (decide (ab h<ab n))=_;rw[decide_eq_false c1])) ?_
  by_cases c2:n≠h
  ·rw[if_pos c2];refine if_t (pN (rL rfl rfl rfl rfl neI_ev) (c:=true) (by show some (!decide (n=h))=_;rw[decide_eq_false c2];rfl)) ?_
   exact drop_ev (m_ev rfl rfl rfl rfl rfl rfl rfl (app_ev hl) (by show [_,_,_,_,Sl.o _,_]=[_,_,_,_,Sl.o _,_];simp))
  ·rw[if_neg c2];have e:n=h:=Classical.not_not.mp c2;refine if_f (pN (rL rfl rfl rfl rfl neI_ev) (c:=false) (by show some (!decide (n=h))=_;rw[decide_eq_true e];rfl)) ?_
   have hc:∀l:List Int,l.length=b0.length+1->(true&&decide ((l.map D.int).length<=1000000))=true:=fun l e=>by rw[List.length_map,decide_eq_true (by omega)];rfl
   by_cases c3:0<=h
   ·rw[if_pos c3];refine if_t (of_b (b:=decide (0<=h)) (s:=[.v (IL ns),.v (.int at_),.v (IL (b0++[last])),.v (.int h),.o (IL acc),.v (.int n)]) rfl (decide_eq_true c3)) ?_;have cl:=compL_lmap (fg:=gN 0) (fc:=fYes) (fe:=E_law_put_in_1) (k:=1) D.int (fun p=>D.int (fart p h)) [.e,.v (.int h)] (b0++[last]) fun p _=>⟨[.v (.int p),.v (.int h)],[.v (.int p),.v (.int h)],.d (.int (fart p h)),[.v (.int p),.v (.int h)],[.v (.int p),.v (.int h)],rfl,rfl,callS_ev rfl rfl (farther_ev p h) rfl,rfl,rfl⟩;refine drop_ev (m_ev rfl rfl rfl (rG (comp_ev (il_ev rfl rfl) (hc _ (by simp)) cl) rfl) rfl rfl rfl (extL_ev (by rw[List.length_map,List.length_map,List.length_append,List.length_singleton];omega)) (by show [_,_,_,_,Sl.o _,_]=[_,_,_,_,Sl.o _,_];simp))
   ·rw[if_neg c3];refine if_f (of_b (b:=decide (0<=h)) (s:=[.v (IL ns),.v (.int at_),.v (IL (b0++[last])),.v (.int h),.o (IL acc),.v (.int n)]) rfl (decide_eq_false c3)) ?_;have cl:=compL_lmap (fg:=gN 0) (fc:=fYes) (fe:=E_law_put_in_2) (k:=1) D.int (fun p=>D.int (0-fart p (0-h))) [.e,.v (.int h)] (b0++[last]).reverse fun p _=>⟨[.v (.int p),.v (.int h)],[.v (.int p),.v (.int h)],.d (.int (0-fart p (0-h))),[.v (.int p),.v (.int h)],[.v (.int p),.v (.int h)],rfl,rfl,rL rfl (callS_ev rfl rfl (farther_ev p (0-h)) rfl) rfl rfl rfl,rfl,rfl⟩;refine drop_ev (m_ev rfl rfl rfl (rG (comp_ev (rvl_ev rfl rfl) (by rw[List.length_reverse];exact hc (b0++[last]) (by simp)) (by rw[← List.map_reverse];exact cl)) rfl) rfl rfl rfl (extL_ev (by rw[List.length_map,List.length_map,List.length_reverse,List.length_append,List.length_singleton];omega)) (by show [_,_,_,_,Sl.o _,_]=[_,_,_,_,Sl.o _,_];simp))
theorem flat_len {α β:Type} (l:List α) (g:α->List β) (n:Nat) (h:∀x∈l,(g x).length<=n):(l.flatMap g).length<=l.length*n:=by
 induction l with
 | nil=>simp
 | cons x r ih =>
  rw[List.flatMap_cons,List.length_append,List.length_cons,Nat.succ_mul];have h1:=h x List.mem_cons_self;have h2:=ih fun y hy=>h y (List.mem_cons_of_mem _ hy);omega
theorem put_ev_in {ns b0:List Int} {i:Nat} {h last:Int} (hi:ns[i]?=some h) (hz:ns.length*(b0.length+1)<=10000):G_law_put_in [IL ns,.int i,IL (b0++[last])]=some (IL (putF ns h last (b0++[last])),true):=by
 have lenO:∀n,(putO h last (b0++[last]) n).length<=b0.length+1:=fun n=>by rw[putO_len];split<;>simp
 have n1:1<=ns.length:=by have:=(List.getElem?_eq_some_iff.mp hi).1;omega
 have b1:b0.length+1<=10000:=by
  have:=Nat.mul_le_mul_right (b0.length+1) n1;omega
 have tot:=flat_len ns (fun n=>(putO h last (b0++[last]) n).map D.int) (b0.length+1) fun n _=>by rw[List.length_map];exact lenO n
 have st0:([]:List D).length+(ns.flatMap fun n=>(putO h last (b0++[last]) n).map D.int).length<=10000:=by rw[List.length_nil];omega
 obtain⟨sf,e1,s5,rfl,_⟩:=ext_loop (f:=D.int) (g:=fun n=>(putO h last (b0++[last]) n).map D.int) (B:=B_law_put_in_1) (fg:=gN 5) (fun acc st=>∃s5,st=[.v (IL ns),.v (.int i),.v (IL (b0++[last])),.v (.int h),.o (.lst acc),s5]/\s5.isIo=false/\∃as:List Int,acc=as.map D.int) ns 10000 (by
   rintro acc n st hn hb ⟨s5,rfl,hs,as,rfl⟩;rw[List.length_map]at hb
   exact⟨[.v (IL ns),.v (.int i),.v (IL (b0++[last])),.v (.int h),.o (IL as),.v (.int n)],_,gN_ev (t:=s5) rfl hs,put_turn (by omega),⟨.v (.int n),by rw[← List.map_append],rfl,_,List.map_append.symm⟩⟩) ns [] [.v (IL ns),.v (.int i),.v (IL (b0++[last])),.v (.int h),.o (.lst []),.e] (fun _ h=>h) st0 ⟨.e,rfl,rfl,[],rfl⟩
 have ef:(ns.flatMap fun n=>(putO h last (b0++[last]) n).map D.int)=(putF ns h last (b0++[last])).map D.int:=by
  unfold putF;rw[List.map_flatMap]
 rw[List.nil_append,ef]at e1;have hd:(ns.map D.int)[i]?=some (.int h):=by rw[List.getElem?_map,hi];rfl
 refine body_ev (o:=.rt (.s 4) [.v (IL ns),.v (.int i),.v (IL (b0++[last])),.v (.int h),.o (IL (putF ns h last (b0++[last]))),s5]) rfl ?_ rfl;refine rM (s:=[.v (IL ns),.v (.int i),.v (IL (b0++[last])),.v (.int h),.e,.e]) (set_d (rL rfl rfl rfl rfl (ix_nat hd)) rfl) ?_;refine rM (s:=[.v (IL ns),.v (.int i),.v (IL (b0++[last])),.v (.int h),.o (.lst []),.e]) rfl ?_;exact rM (for_ev (il_ev rfl rfl) e1) rfl
end K43
namespace VF
open PySem L2
theorem fPut_ev {i:Nat} {s t:Sl} {st s1:En} (h:st[i]?=some t) (n:t.isIo=false) (e:st.set i s=s1:=by rfl):fPut i s st=some s1:=by
 unfold fPut;rw[h];show(if t.isIo=true then none else some (st.set i s))=_;rw[if_neg (by rw[n];decide),e]
theorem erase_map {α:Type} (f:α->D):∀(xs:List α) (i:Nat),(xs.map f).eraseIdx i=(xs.eraseIdx i).map f
 | [],_=>by simp
 | x::xs,0=>by simp
 | x::xs,i+1=>by simp[erase_map f xs i]
theorem popAt_ev {xs:List D} {i:Int} (h0:0<=i) (h1:i<xs.length) (h2:xs.length<=1000000) (hk:i.toNat<xs.length):mPopAt (.lst xs) [.int i]=some (xs[i.toNat],.lst (xs.eraseIdx i.toNat)):=by
 show(if -(2 ^ 63)<=i/\i<2 ^ 63 then(seqIndex? i xs.length).bind fun k=>(xs[k]?).bind fun y=>some (y,D.lst (xs.eraseIdx k)) else none)=_;rw[if_pos ⟨by omega,by omega⟩,PySem.seqIndex_of h0 h1]
 show(xs[i.toNat]?).bind (fun y=>some (y,D.lst (xs.eraseIdx i.toNat)))=_;rw[List.getElem?_eq_getElem hk];rfl
theorem popL_ev {α:Type} {f:α->D} {xs:List α} {i:Nat} {x:α} (h:xs[i]?=some x) (hl:xs.length<=1000):mPopAt (.lst (xs.map f)) [.int (i:Int)]=some (f x,.lst ((xs.eraseIdx i).map f)):=by
 have hi:=(List.getElem?_eq_some_iff.mp h).1;have:=popAt_ev (xs:=xs.map f) (i:=(i:Int)) (by omega) (by rw[List.length_map];omega) (by rw[List.length_map];omega) (by rw[List.length_map];omega)
 have e1:((i:Int)).toNat=i:=by omega (config:={})
 have e2:(xs.map f)[((i:Int)).toNat]?=some (f x):=by rw[e1,List.getElem?_map,h];rfl
 obtain⟨_,e3⟩:=List.getElem?_eq_some_iff.mp e2;rw[this,e3,e1,erase_map]
theorem catL_ev {a b:List D} (h:a.length+b.length<=1000000):bAdd (.lst a) (.lst b)=some (.lst (a++b),true):=by
 have e1:bAddI (.lst a) (.lst b)=none:=rfl;have e2:bAddS (.lst a) (.lst b)=none:=rfl;have e3:bCat (.lst a) (.lst b)=some (.lst (a++b),true):=by simp only[bCat];rw[if_pos h]
 unfold bAdd orD;rw[e1,e2,e3]
end VF
namespace K43
open PySem L2 VF VF22
noncomputable def ups (m:Nat):List Int:=(List.range m).map fun t=>((t+1:Nat):Int)
theorem ups_nd (m:Nat):(ups m).Nodup:=nd_map (fun a b h=>by have h':((a+1:Nat):Int)=((b+1:Nat):Int):=h;omega) List.nodup_range
theorem ups_mem {m:Nat} {x:Int} (h:x∈ups m):1<=x/\x<=m:=by
 obtain⟨t,ht,rfl⟩:=List.mem_map.mp h;have:=List.mem_range.mp ht;omega
theorem rng_ups (m:Nat):rng 1 m=(ups m).map D.int:=by
 unfold rng ups;rw[List.map_map];exact List.map_congr_left fun t _=>by show D.int (1+(t:Int))=D.int ((t+1:Nat):Int);congr 1;omega
theorem perm_erase {l:List Int} {i:Nat} {x:Int} (h:l[i]?=some x):l.Perm (x::l.eraseIdx i):=by
 have hi:i<l.length:=(List.getElem?_eq_some_iff.mp h).1;have ex:l[i]=x:=(List.getElem?_eq_some_iff.mp h).2;rw[List.eraseIdx_eq_take_drop_succ];have:l=l.take i++x::l.drop (i+1):=by
  rw[← ex,← List.drop_eq_getElem_cons hi,List.take_append_drop]
 exact(List.Perm.of_eq this).trans List.perm_middle
structure Blk (most:Int) (b:List Int):Prop where
 mid:∃(mid:List Int) (m:Nat),b=(0::mid)++[((m+1:Nat):Int)]/\(mid.map ab).Perm (ups m)/\1<=m/\(m:Int)<=most
theorem block_turn {δ:D} {most:Int} {m:Nat} {left mid:List Int} {sg k:Int} (hδ:DlOk δ) (hl:left≠[]) (hl2:left.length<=100) (hm:mid.length<=100) (hs:sg=1∨sg=-1) (pos:∀y∈left,0<=y) :
  ∃δ' y z left',B_law_block_1 [.io δ,.v (.int most),.v (.int m),.o (IL left),.o (IL [1,sg]),.o (IL (0::mid)),.v (.int k)]=some (.nx [.io δ',.v (.int most),.v (.int m),.o (IL left'),.o (IL [1,sg]),.o (IL (0::(mid++[z]))),.v (.int k)])/\DlOk δ'/\left.Perm (y::left')/\ab z=y:=by
 have hp:0<left.length:=List.length_pos_iff.mpr hl;obtain⟨d1,δ1,e1,d10,d11,f1⟩:=draw_ok (n:=(left.length:Int)) hδ (by omega) (by omega)
 obtain⟨d2,δ2,e2,d20,d21,f2⟩:=draw_ok (n:=2) f1 (by decide) (by decide)
 obtain⟨i,rfl⟩:=Int.eq_ofNat_of_zero_le d10;have hi:i<left.length:=by omega
 have hx:left[i]?=some left[i]:=List.getElem?_eq_getElem hi;have hy:=pos left[i] (List.getElem_mem hi);obtain⟨s,es,hs'⟩:∃s,bIx (IL [1,sg]) (.int d2)=some (.int s,false)/\(s=1∨s=-1):=by
  have:d2=0∨d2=1:=by omega
  rcases this with rfl|rfl
  ·exact⟨1,rfl,.inl rfl⟩
  ·exact⟨sg,rfl,hs⟩
 refine⟨δ2,left[i],left[i]*s,left.eraseIdx i,?_,f2,perm_erase hx,?_⟩
 ·have ln:bLen [IL left]=some (.int left.length,false):=by
   show some (D.int ((left.map D.int).length:Nat),false)=_;rw[List.length_map]
  refine drop_ev (m_ev rfl rfl rfl (rG (rL (r1:=.d (.int left[i])) (m_ev rfl rfl rfl (rG (io_ev rfl rfl (rG (cb_ev rfl rfl ln) rfl) rfl rfl rfl e1) rfl) rfl rfl rfl (popL_ev hx (by omega))) (rL rfl (io_ev rfl rfl rfl rfl rfl rfl e2) rfl rfl es) rfl rfl (mul_ev (.inr ?_))) rfl) rfl rfl rfl (app_ev ?_) ?_)
  ·rcases hs' with rfl|rfl<;>decide
  ·simp only[List.length_map,List.length_cons];omega
  ·show [_,_,_,_,_,Sl.o _,_]=[_,_,_,_,_,Sl.o _,_];simp[Sl.put]
 ·rcases hs' with rfl|rfl
  ·rw[Int.mul_one];unfold ab;rw[if_neg (by omega)]
  ·unfold ab;split<;>omega
theorem block_ok {δ:D} {most:Int} (hδ:DlOk δ) (h0:1<=most) (h1:most<=90):∃b δ',G_law_block δ [.int most]=some ((IL b,true),δ')/\Blk most b/\DlOk δ':=by
 obtain⟨d1,δ1,e1,d10,d11,f1⟩:=draw_ok (n:=most) hδ (by omega) (by omega)
 obtain⟨d2,δ2,e2,d20,d21,f2⟩:=draw_ok (n:=3) f1 (by decide) (by decide)
 obtain⟨c,rfl⟩:=Int.eq_ofNat_of_zero_le d10;have hm:(1:Int)+(c:Int)=((c+1:Nat):Int):=by omega
 obtain⟨sg,esg,hsg⟩:∃sg:Int,(1:Int)-2*(if decide (d2=0)=true then 1 else 0)=sg/\(sg=1∨sg=-1):=by
  by_cases q:d2=0
  ·exact⟨-1,by simp[q],.inr rfl⟩
  ·exact⟨1,by simp[q],.inl rfl⟩
 obtain⟨sf,el,δ3,left,mid,s6,rfl,f3,pm,ln,_⟩:=forL_list (fg:=gN 6) (B:=B_law_block_1) (fun t:Nat=>D.int (0+(t:Int))) (List.range (c+1)) (fun gone st=>∃δ' left mid s6,st=[.io δ',.v (.int most),.v (.int ((c+1:Nat):Int)),.o (IL left),.o (IL [1,sg]),.o (IL (0::mid)),s6]/\DlOk δ'/\(left++mid.map ab).Perm (ups (c+1))/\mid.length=gone.length/\s6.isIo=false)
  (by
   rintro gone t rest st ha ⟨δ',left,mid,s6,rfl,hf,pm,hl,h6⟩;have tl:gone.length+rest.length+1=c+1:=by
    have:=congrArg List.length ha;rw[List.length_range,List.length_append,List.length_cons]at this;omega
   have ll:left.length+mid.length=c+1:=by
    have:=pm.length_eq;rw[List.length_append,List.length_map]at this;rw[this];unfold ups;rw[List.length_map,List.length_range]
   obtain⟨δ4,y,z,left',eb,f4,py,hz⟩:=block_turn (δ:=δ') (most:=most) (m:=c+1) (left:=left) (mid:=mid) (sg:=sg) (k:=0+(t:Int)) hf (fun z=>by rw[z,List.length_nil]at ll;omega) (by omega) (by omega) hsg (fun y hy=>by
    have:=ups_mem (pm.mem_iff.mp (List.mem_append_left _ hy));omega)
   refine⟨_,_,gN_ev (t:=s6) rfl h6,eb,δ4,left',mid++[z],.v (.int (0+(t:Int))),rfl,f4,?_,by simp[hl],rfl⟩
   refine List.Perm.trans ?_ pm;rw[List.map_append,List.map_singleton,hz,← List.append_assoc];refine List.perm_append_comm.trans ?_
   exact(List.Perm.append_right (mid.map ab) py).symm)
  (List.range (c+1)) [] [.io δ2,.v (.int most),.v (.int ((c+1:Nat):Int)),.o (IL (ups (c+1))),.o (IL [1,sg]),.o (IL [0]),.e] rfl ⟨δ2,ups (c+1),[],.e,rfl,f2,by simp,rfl,rfl⟩
 rw[List.length_range]at ln;have ll:left=[]:=by
  have:=pm.length_eq;rw[List.length_append,List.length_map,ln]at this;unfold ups at this;rw[List.length_map,List.length_range]at this;exact List.eq_nil_of_length_eq_zero (by omega)
 subst ll;rw[List.nil_append]at pm;refine⟨(0::mid)++[((c+1+1:Nat):Int)],δ3,?_,⟨mid,c+1,rfl,pm,by omega,by omega⟩,f3⟩
 refine bodyIO_ev (o:=.rt (.f (IL ((0::mid)++[((c+1+1:Nat):Int)]))) [.io δ3,.v (.int most),.v (.int ((c+1:Nat):Int)),.o (IL []),.o (IL [1,sg]),.o (IL (0::mid)),s6]) rfl ?_ rfl;refine rM (s:=[.io δ1,.v (.int most),.v (.int ((c+1:Nat):Int)),.e,.e,.e,.e]) (set_d (rL rfl (io_ev rfl rfl rfl rfl rfl rfl e1) rfl rfl (z:=(.int ((c+1:Nat):Int),false)) (by show some (D.int (1+(c:Int)),false)=_;rw[hm])) rfl) ?_
 refine rM (s:=[.io δ1,.v (.int most),.v (.int ((c+1:Nat):Int)),.o (IL (ups (c+1))),.e,.e,.e]) (set_f (x:=IL (ups (c+1))) (s:=[.io δ1,.v (.int most),.v (.int ((c+1:Nat):Int)),.e,.e,.e,.e]) ?_ rfl) ?_
 ·have r:=lr2_ev (fa:=rZ (fC (.int 1)) (rZ (fOp bAdd (fVar 2) (fC (.int 1))) fNil)) (st:=[.io δ1,.v (.int most),.v (.int ((c+1:Nat):Int)),.e,.e,.e,.e]) rfl rfl (i:=1) (j:=((c+1:Nat):Int)+1) ⟨by omega,by omega,by omega,by omega (config:={}),by omega⟩
  have e:(((c+1:Nat):Int)+1-1).toNat=c+1:=by omega (config:={})
  rw[e,rng_ups]at r;exact r
 refine rM (s:=[.io δ2,.v (.int most),.v (.int ((c+1:Nat):Int)),.o (IL (ups (c+1))),.o (IL [1,sg]),.e,.e]) (set_f (x:=IL [1,sg]) (lst_ev (rG rfl (rG (rL rfl (rL rfl (cb_ev (rG (rL (io_ev rfl rfl rfl rfl rfl rfl e2) rfl rfl rfl eqI_ev) rfl) rfl (z:=(.int (if decide (d2=0)=true then 1 else 0),false)) rfl) rfl rfl (mul_ev (.inl ⟨by decide,by decide⟩))) rfl rfl (z:=(.int sg,false)) (by rw[← esg];rfl)) rfl)) rfl (by simp)) rfl) ?_
 refine rM (s:=[.io δ2,.v (.int most),.v (.int ((c+1:Nat):Int)),.o (IL (ups (c+1))),.o (IL [1,sg]),.o (IL [0]),.e]) rfl ?_;refine rM (for_ev (rng1_ev (j:=((c+1:Nat):Int)) rfl rfl ⟨by omega,by omega (config:={})⟩) el) ?_
 exact ret_ev (rL rfl rfl rfl rfl (z:=(IL ((0::mid)++[((c+1+1:Nat):Int)]),true)) (by
  have:=catL_ev (a:=(0::mid).map D.int) (b:=[D.int (((c+1:Nat):Int)+1)]) (by simp only[List.length_map,List.length_cons,List.length_nil];omega)
  refine this.trans ?_
  rw[IL,List.map_append];rfl))
theorem blk_nm {most:Int} {b:List Int} (B:Blk most b):∃b0 last,b=b0++[last]/\Nm last b/\2<=last/\last<=most+1/\(b0.length:Int)=last:=by
 obtain⟨mid,m,rfl,pm,h1,h2⟩:=B;have lm:mid.length=m:=by
  have:=pm.length_eq;rw[List.length_map]at this;rw[this];unfold ups;rw[List.length_map,List.length_range]
 have e:(((0::mid)++[((m+1:Nat):Int)]).map ab)=0::(mid.map ab++[((m+1:Nat):Int)]):=by
  rw[List.map_append,List.map_cons,List.map_singleton];have a1:ab 0=0:=rfl;have a2:ab ((m+1:Nat):Int)=((m+1:Nat):Int):=by unfold ab;rw[if_neg (by omega)]
  rw[a1,a2];rfl
 refine⟨0::mid,_,rfl,⟨?_,fun n hn=>?_⟩,by omega,by omega,by rw[List.length_cons,lm]⟩
 ·rw[e];have pn:(mid.map ab).Nodup:=pm.nodup_iff.mpr (ups_nd m);rw[List.nodup_cons];refine⟨fun z=>?_,List.nodup_append.mpr ⟨pn,by simp,fun a ha b hb=>?_⟩⟩
  ·rcases List.mem_append.mp z with z|z
   ·have:=ups_mem (pm.mem_iff.mp z);omega
   ·have:=List.mem_singleton.mp z;omega
  ·have:=ups_mem (pm.mem_iff.mp ha);rw[List.mem_singleton.mp hb];omega
 ·have hm:ab n∈((0::mid)++[((m+1:Nat):Int)]).map ab:=List.mem_map_of_mem hn;rw[e]at hm;rcases List.mem_cons.mp hm with z|z
  ·omega
  ·rcases List.mem_append.mp z with z|z
   ·have:=ups_mem (pm.mem_iff.mp z);omega
   ·have:=List.mem_singleton.mp z;omega
theorem Nm.up {c c':Int} {ns:List Int} (h:Nm c ns) (hc:c<=c'):Nm c' ns:=⟨h.nd,fun n hn=>Int.le_trans (h.le n hn) hc⟩
theorem len_IL (ns:List Int):bLen [IL ns]=some (.int ns.length,false):=by
 show some (D.int ((ns.map D.int).length:Nat),false)=_;rw[List.length_map]
theorem num_turn {δ:D} {most:Int} {ns:List Int} {c k:Int} {s4 s5 s6:Sl} (hδ:DlOk δ) (h0:5<=most) (h1:most<=40) (N:Nm c ns) (l0:2<=ns.length) (l1:(ns.length:Int)<=most+2) (i4:s4.isIo=false) (i5:s5.isIo=false) (i6:s6.isIo=false) :
  ∃δ' ns' t4 t5 t6,B_law_numbers_1 [.io δ,.v (.int most),.o (IL ns),.v (.int k),s4,s5,s6]=some (.nx [.io δ',.v (.int most),.o (IL ns'),.v (.int k),t4,t5,t6])/\DlOk δ'/\Nm (c+50) ns'/\2<=ns'.length/\(ns'.length:Int)<=most+2/\t4.isIo=false/\t5.isIo=false/\t6.isIo=false:=by
 obtain⟨d1,δ1,e1,d10,d11,f1⟩:=draw_ok (n:=3) hδ (by decide) (by decide)
 obtain⟨v,ev,v0,v1⟩:∃v,bIx (.lst [.int 2,.int 4,.int most]) (.int d1)=some (.int v,false)/\1<=v/\v<=most:=by
  have:d1=0∨d1=1∨d1=2:=by omega
  rcases this with rfl|rfl|rfl
  ·exact⟨2,rfl,by omega,by omega⟩
  ·exact⟨4,rfl,by omega,by omega⟩
  ·exact⟨most,rfl,by omega,by omega⟩
 obtain⟨b,δ2,e2,B,f2⟩:=block_ok (most:=v) f1 v0 (by omega)
 obtain⟨b0,last,rfl,Bn,hl2,hl3,hl4⟩:=blk_nm B;obtain⟨d3,δ3,e3,d30,d31,f3⟩:=draw_ok (n:=(ns.length:Int)) f2 (by omega) (by omega)
 obtain⟨i,rfl⟩:=Int.eq_ofNat_of_zero_le d30;have hi:i<ns.length:=by omega
 have hx:ns[i]?=some ns[i]:=List.getElem?_eq_getElem hi;have hmem:ns[i]∈ns:=List.getElem_mem hi;have main:∀st4:En,st4=[.io δ3,.v (.int most),.o (IL ns),.v (.int k),.v (.int (most+2-ns.length)),.o (IL (b0++[last])),.v (.int (i:Int))]->∃ns' t5,(sIf (fTest (fOp bLe (fOp bSub (fCB bLen (rZ (fVar 5) fNil)) (fC (.int 1))) (fVar 4))) (sSet (fCall G_law_put_in (rZ (fVar 2) (rZ (fVar 6) (rZ (fVar 5) fNil)))) 2) sNext) st4=some (.nx [.io δ3,.v (.int most),.o (IL ns'),.v (.int k),.v (.int (most+2-ns.length)),t5,.v (.int (i:Int))])/\Nm (c+50) ns'/\2<=ns'.length/\(ns'.length:Int)<=most+2/\t5.isIo=false:=by
  rintro st4 rfl;have lb:(((b0++[last]).length:Nat):Int)=last+1:=by rw[List.length_append,List.length_singleton];omega
  by_cases q:((b0++[last]).length:Int)-1<=most+2-ns.length
  ·have hpl:=putF_len (blk:=b0++[last]) (last:=last) (nd_of N.nd) hmem;refine⟨putF ns ns[i] last (b0++[last]),.v (IL (b0++[last])),?_,(put_nm N Bn (by omega) hmem).up (by omega),by omega,by omega,rfl⟩
   refine if_t (pN (rL (rL (cb_ev rfl rfl (len_IL _)) rfl rfl rfl rfl) rfl rfl rfl rfl) (c:=true) (by show some (decide (((b0++[last]).length:Int)-1<=most+2-ns.length))=_;rw[decide_eq_true q])) ?_
   have hz:ns.length*(b0.length+1)<=10000:=by
    have h1:ns.length<=42:=by omega
    have h2:b0.length+1<=42:=by omega
    exact Nat.le_trans (Nat.mul_le_mul h1 h2) (by decide)
   exact set_f (call_ev rfl rfl (put_ev_in hx hz)) rfl
  ·refine⟨ns,.o (IL (b0++[last])),?_,N.up (by omega),l0,l1,rfl⟩
   exact if_f (pN (rL (rL (cb_ev rfl rfl (len_IL _)) rfl rfl rfl rfl) rfl rfl rfl rfl) (c:=false) (by show some (decide (((b0++[last]).length:Int)-1<=most+2-ns.length))=_;rw[decide_eq_false q])) rfl
 obtain⟨ns',t5,em,m1,m2,m3,m4⟩:=main _ rfl;refine⟨δ3,ns',.v (.int (most+2-ns.length)),t5,.v (.int (i:Int)),?_,f3,m1,m2,m3,rfl,m4,rfl⟩;refine rM (s:=[.io δ,.v (.int most),.o (IL ns),.v (.int k),.v (.int (most+2-ns.length)),s5,s6]) (set_d (x:=.int (most+2-ns.length)) (rL (rL rfl rfl rfl rfl rfl) (cb_ev rfl rfl (len_IL ns)) rfl rfl rfl) (fPut_ev (t:=s4) rfl i4)) ?_;refine rM (s:=[.io δ2,.v (.int most),.o (IL ns),.v (.int k),.v (.int (most+2-ns.length)),.o (IL (b0++[last])),s6]) (set_f (io_ev rfl rfl (rG (rL (lst_ev rfl rfl (by simp)) (io_ev rfl rfl rfl rfl rfl rfl e1) rfl rfl ev) rfl) rfl rfl rfl e2) (fPut_ev (t:=s5) rfl i5)) ?_
 refine rM (s:=[.io δ3,.v (.int most),.o (IL ns),.v (.int k),.v (.int (most+2-ns.length)),.o (IL (b0++[last])),.v (.int (i:Int))]) (set_d (x:=.int (i:Int)) (io_ev rfl rfl (rG (cb_ev rfl rfl (len_IL ns)) rfl) rfl rfl rfl e3) (fPut_ev (t:=s6) rfl i6)) ?_;exact em
theorem numbers_ok {δ:D} {most:Int} (hδ:DlOk δ) (h0:5<=most) (h1:most<=40):∃ns δ',G_law_numbers δ [.int most]=some ((IL ns,true),δ')/\Nm 1000 ns/\2<=ns.length/\ns.length<=42/\DlOk δ':=by
 have N0:Nm 50 [0,1]:=⟨by decide,fun n hn=>by
  rcases List.mem_cons.mp hn with rfl|hn
  ·decide
  ·rw[List.mem_singleton.mp hn];decide⟩
 obtain⟨d3,δ3,e3,d30,d31,f3⟩:=draw_ok (n:=5) hδ (by decide) (by decide)
 obtain⟨r,rfl⟩:=Int.eq_ofNat_of_zero_le d30;obtain⟨sf,el,δ4,ns,s3,s4,s5,s6,rfl,f4,N4,l4,l5,_⟩:=forL_list (fg:=gN 3) (B:=B_law_numbers_1) (fun t:Nat=>D.int (0+(t:Int))) (List.range (r+1)) (fun gone st=>∃δ' ns s3 s4 s5 s6,st=[.io δ',.v (.int most),.o (IL ns),s3,s4,s5,s6]/\DlOk δ'/\Nm (50+50*(gone.length:Int)) ns/\2<=ns.length/\(ns.length:Int)<=most+2/\s3.isIo=false/\s4.isIo=false/\s5.isIo=false/\s6.isIo=false)
  (by
   rintro gone t rest st ha ⟨δ',ns,s3,s4,s5,s6,rfl,hf,N,k0,k1,i3,i4,i5,i6⟩;obtain⟨δ5,ns',t4,t5,t6,eb,g1,g2,g3,g4,g5,g6,g7⟩:=num_turn (k:=0+(t:Int)) hf h0 h1 N k0 k1 i4 i5 i6
   exact⟨_,_,gN_ev (t:=s3) rfl i3,eb,δ5,ns',.v (.int (0+(t:Int))),t4,t5,t6,rfl,g1,g2.up (by rw[List.length_append,List.length_singleton];omega),g3,g4,rfl,g5,g6,g7⟩)
  (List.range (r+1)) [] [.io δ3,.v (.int most),.o (IL [0,1]),.e,.e,.e,.e] rfl ⟨δ3,[0,1],.e,.e,.e,.e,rfl,f3,N0.up (by simp),by decide,by show((2:Nat):Int)<=_;omega,rfl,rfl,rfl,rfl⟩
 rw[List.length_range]at N4;refine⟨ns,δ4,?_,N4.up (by omega),l4,by omega,f4⟩
 refine bodyIO_ev (o:=.rt (.s 2) [.io δ4,.v (.int most),.o (IL ns),s3,s4,s5,s6]) rfl ?_ rfl;refine rM (s:=[.io δ,.v (.int most),.o (IL [0,1]),.e,.e,.e,.e]) rfl ?_;have hr:(1:Int)+(r:Int)=((r+1:Nat):Int):=by omega
 refine rM (for_ev (ds:=(List.range (r+1)).map fun t:Nat=>D.int (0+(t:Int))) (s1:=[.io δ3,.v (.int most),.o (IL [0,1]),.e,.e,.e,.e]) ?_ el) rfl;have:=rng1_ev (fa:=rZ (fOp bAdd (fC (.int 1)) (fIO G_law_draw 0 (rZ (fC (.int 5)) fNil))) fNil) (st:=[.io δ,.v (.int most),.o (IL [0,1]),.e,.e,.e,.e]) (j:=((r+1:Nat):Int)) (rs:=[.d (.int ((r+1:Nat):Int))]) (s1:=[.io δ3,.v (.int most),.o (IL [0,1]),.e,.e,.e,.e]) (rG (rL rfl (io_ev rfl rfl rfl rfl rfl rfl e3) rfl rfl (z:=(.int ((r+1:Nat):Int),false)) (by rw[← hr];rfl)) rfl) rfl ⟨by omega,by omega (config:={})⟩
 exact this
noncomputable def av (ns:List Int) (i:Nat):Int:=ns.getD i 0
theorem av_at {ns:List Int} {i:Nat} (h:i<ns.length):(ns.map D.int)[i]?=some (.int (av ns i)):=by
 rw[List.getElem?_map,List.getElem?_eq_getElem h];unfold av;rw[List.getD_eq_getElem?_getD,List.getElem?_eq_getElem h];rfl
noncomputable def mn (i j:Int):Int:=if j<i then j else i
noncomputable def mx (i j:Int):Int:=if j > i then j else i
noncomputable def lo (ns:List Int) (s:Nat):Nat->Int
 | 0=>ab (av ns s)
 | k+1=>mn (lo ns s k) (ab (av ns (s+1+k)))
noncomputable def hi (ns:List Int) (s:Nat):Nat->Int
 | 0=>ab (av ns s)
 | k+1=>mx (hi ns s k) (ab (av ns (s+1+k)))
noncomputable def pairB (a b l h:Int):Bool:=decide ((a=l/\b=h)∨(a=-h/\b=-l))
noncomputable def spK (ns:List Int) (s k:Nat):Bool:=decide (hi ns s k-lo ns s k=(k:Int))&&pairB (av ns s) (av ns (s+k)) (lo ns s k) (hi ns s k)
noncomputable def spB (ns:List Int) (s e:Nat):Bool:=spK ns s (e-s)
noncomputable def fromK (ns:List Int) (s n:Nat):List (Nat×Nat):=(((List.range n).map fun t=>s+1+t).filter (spB ns s)).map fun e=>(s,e)
noncomputable def frm (ns:List Int) (s:Nat):List (Nat×Nat):=fromK ns s (ns.length-(s+1))
noncomputable def Sp (ns:List Int) (n:Nat):List (Nat×Nat):=(List.range n).flatMap (frm ns)
noncomputable def S (ns:List Int):List (Nat×Nat):=Sp ns ns.length
noncomputable def prD (p:Nat×Nat):D:=.tup [.int p.1,.int p.2]
noncomputable abbrev PL (l:List (Nat×Nat)):D:=.lst (l.map prD)
noncomputable def DT (l:List (Nat×Nat)):D:=.dt (l.map fun p=>([.inl (p.1:Int),.inl (p.2:Int)],.bl true))
theorem fromK_succ (ns:List Int) (s n:Nat):fromK ns s (n+1)=fromK ns s n++(if spB ns s (s+1+n)=true then [(s,s+1+n)] else []):=by
 unfold fromK;rw[List.range_succ,List.map_append,List.filter_append,List.map_append];congr 1;rw[List.map_singleton,List.filter_cons];split<;>simp
theorem fromK_mem {ns:List Int} {s n:Nat} {p:Nat×Nat} (h:p∈fromK ns s n):p.1=s/\s+1<=p.2/\p.2<s+1+n/\spB ns s p.2=true:=by
 obtain⟨e,he,rfl⟩:=List.mem_map.mp h;obtain⟨h1,h2⟩:=List.mem_filter.mp he;obtain⟨t,ht,rfl⟩:=List.mem_map.mp h1;have:=List.mem_range.mp ht;exact⟨rfl,by show s+1<=s+1+t;omega,by show s+1+t<s+1+n;omega,h2⟩
noncomputable def lex (p q:Nat×Nat):Prop:=p.1<q.1∨(p.1=q.1/\p.2<q.2)
theorem fromK_lex (ns:List Int) (s:Nat):∀n,(fromK ns s n).Pairwise lex
 | 0=>List.Pairwise.nil
 | n+1=>by
  rw[fromK_succ];refine List.pairwise_append.mpr ⟨fromK_lex ns s n,by split<;>simp,fun a ha b hb=>?_⟩
  have h1:=fromK_mem ha;split at hb
  ·rw[List.mem_singleton.mp hb];exact .inr ⟨h1.1,by show a.2<s+1+n;omega⟩
  ·cases hb
theorem Sp_succ (ns:List Int) (n:Nat):Sp ns (n+1)=Sp ns n++frm ns n:=by
 unfold Sp;rw[List.range_succ,List.flatMap_append,List.flatMap_singleton]
theorem Sp_mem {ns:List Int} {n:Nat} {p:Nat×Nat} (h:p∈Sp ns n):p.1<n/\p.1<p.2/\p.2<ns.length/\spB ns p.1 p.2=true:=by
 obtain⟨s,hs,hp⟩:=List.mem_flatMap.mp h;have:=List.mem_range.mp hs;obtain⟨h1,h2,h3,h4⟩:=fromK_mem hp;subst h1;exact⟨this,by omega,by omega,h4⟩
theorem Sp_lex (ns:List Int):∀n,(Sp ns n).Pairwise lex
 | 0=>List.Pairwise.nil
 | n+1=>by
  rw[Sp_succ];refine List.pairwise_append.mpr ⟨Sp_lex ns n,fromK_lex ns n _,fun a ha b hb=>.inl ?_⟩;rw[(fromK_mem hb).1];exact(Sp_mem ha).1
theorem lex_ne {p q:Nat×Nat} (h:lex p q):p≠q:=fun e=>by
 subst e;rcases h with h|h<;>omega
theorem Sp_nd (ns:List Int) (n:Nat):(Sp ns n).Nodup:=List.Pairwise.imp lex_ne (Sp_lex ns n)
theorem Sp_len (ns:List Int) (n:Nat):(Sp ns n).length<=n*ns.length:=by
 have:=flat_len (List.range n) (frm ns) ns.length fun s _=>by
  unfold frm fromK;rw[List.length_map];refine Nat.le_trans (List.length_filter_le _ _) ?_;rw[List.length_map,List.length_range];omega
 rwa [List.length_range]at this
theorem S_mem {ns:List Int} {s e:Nat}:(s,e)∈S ns↔s<e/\e<ns.length/\spB ns s e=true:=by
 constructor
 ·intro h;have:=Sp_mem h;exact this.2
 ·rintro⟨h1,h2,h3⟩;refine List.mem_flatMap.mpr ⟨s,List.mem_range.mpr (by omega),List.mem_map.mpr ⟨e,List.mem_filter.mpr ⟨List.mem_map.mpr ⟨e-(s+1),List.mem_range.mpr (by omega),by omega⟩,h3⟩,rfl⟩⟩
theorem rng_split {n t:Nat} {gone rest:List Nat} (h:List.range n=gone++t::rest):gone=List.range t/\t<n:=by
 have hl:gone.length<n:=by
  have:=congrArg List.length h;rw[List.length_range,List.length_append,List.length_cons]at this;omega
 have ht:t=gone.length:=by
  have h1:(List.range n)[gone.length]?=some t:=by rw[h];simp
  rw[List.getElem?_range hl]at h1;exact(Option.some.inj h1).symm
 subst ht;refine⟨?_,hl⟩;have h2:(List.range n).take gone.length=gone:=by rw[h];simp
 rw[List.take_range,Nat.min_eq_left (by omega)]at h2
 exact h2.symm
theorem key_in {l:List (Nat×Nat)} {a b:Nat}:(lookG (l.map fun p=>(([.inl (p.1:Int),.inl (p.2:Int)]:List Key),D.bl true)) [.inl (a:Int),.inl (b:Int)]).isSome=decide ((a,b)∈l):=by
 induction l with
 | nil=>rfl
 | cons p r ih =>
  unfold lookG at ih ⊢;rw[List.map_cons,List.find?_cons];by_cases e:p=(a,b)
  ·subst e;simp
  ·have hk:¬ (([.inl (p.1:Int),.inl (p.2:Int)]:List Key)=[.inl (a:Int),.inl (b:Int)]):=fun z=>e (by
    have h1:(p.1:Int)=a:=by injection z with z1 z2;injection z1
    have h2:(p.2:Int)=b:=by injection z with z1 z2;injection z2 with z3 z4;injection z3
    exact Prod.ext (by omega) (by omega))
   have:decide (([.inl (p.1:Int),.inl (p.2:Int)]:List Key)=[.inl (a:Int),.inl (b:Int)])=false:=decide_eq_false hk;simp only[this];rw[ih];have e':¬ (a,b)=p:=fun z=>e z.symm;simp[e']
theorem din_ev {l:List (Nat×Nat)} {a b:Nat}:bDIn false (prD (a,b)) (DT l)=some (.bl (decide ((a,b)∈l)),false):=by
 rw[← key_in];rfl
theorem dput_ev {l:List (Nat×Nat)} {p:Nat×Nat} (h:p∉l) (hl:l.length<100000):bSetD (DT l) (prD p) (.bl true)=some (DT (l++[p])):=by
 show(if (l.map fun p=>(([.inl (p.1:Int),.inl (p.2:Int)]:List Key),D.bl true)).length<100000 then some (D.dt (putG (l.map fun p=>(([.inl (p.1:Int),.inl (p.2:Int)]:List Key),D.bl true)) [.inl (p.1:Int),.inl (p.2:Int)] (.bl true))) else none)=_;rw[if_pos (by rw[List.length_map];exact hl)]
 unfold putG DT;rw[if_neg,List.map_append]
 ·rfl
 ·rw[List.any_eq_true];rintro⟨x,hx,hk⟩;obtain⟨q,hq,rfl⟩:=List.mem_map.mp hx;have z:=of_decide_eq_true hk;have h1:(q.1:Int)=p.1:=by injection z with z1 z2;injection z1
  have h2:(q.2:Int)=p.2:=by injection z with z1 z2;injection z2 with z3 z4;injection z3
  have e:q=p:=Prod.ext (by omega) (by omega)
  exact h (e ▸ hq)
open Classical in
theorem in_pair {a b l h:Int}:bInD (.tup [.int a,.int b]) (.tup [.tup [.int l,.int h],.tup [.int (-h),.int (-l)]])=some (.bl (pairB a b l h),false):=by
 have e1:bIn (.tup [.int a,.int b]) (.tup [.tup [.int l,.int h],.tup [.int (-h),.int (-l)]])=none:=rfl;have pp:∀x y:Int,Pl 40 (.tup [.int x,.int y]):=fun x y=>.tup fun d hd=>by
  rcases List.mem_cons.mp hd with rfl|hd
  ·exact .int _ _
  ·rw[List.mem_singleton.mp hd];exact .int _ _
 unfold bInD orD;rw[e1];show bInP false _ _=_;unfold bInP;show(if _ then _ else _)=_
 rw[if_pos ⟨pp a b,fun d hd=>by
  rcases List.mem_cons.mp hd with rfl|hd
  ·exact pp _ _
  ·rw[List.mem_singleton.mp hd];exact pp _ _⟩]
 have inj:∀x y:Int,D.tup [.int a,.int b]=D.tup [.int x,.int y]↔a=x/\b=y:=fun x y=>by
  constructor
  ·intro z;injection z with z;injection z with z1 z2;injection z2 with z2 z3;injection z1 with z1;injection z2 with z2;exact⟨z1,z2⟩
  ·rintro⟨rfl,rfl⟩;rfl
 unfold pairB;congr 3;simp only[Bool.false_eq_true,if_false];refine decide_eq_decide.mpr ?_;rw[List.mem_cons,List.mem_singleton,inj,inj]
theorem from_turn {ns:List Int} {s t:Nat} {acc:List (Nat×Nat)} {l h:Int} {s6:Sl} (h1:s+1+t<ns.length) (ha:acc.length<1000) (h6:s6.isIo=false) (hs:spB ns s (s+1+t)=(decide (mx h (ab (av ns (s+1+t)))-mn l (ab (av ns (s+1+t)))=((s+1+t:Nat):Int)-s)&&pairB (av ns s) (av ns (s+1+t)) (mn l (ab (av ns (s+1+t)))) (mx h (ab (av ns (s+1+t)))))) :
  B_spans_from_1 [.v (IL ns),.v (.int s),.o (PL acc),.v (.int l),.v (.int h),.v (.int ((s+1+t:Nat):Int)),s6]=some (.nx [.v (IL ns),.v (.int s),.o (PL (acc++if spB ns s (s+1+t)=true then [(s,s+1+t)] else [])),.v (.int (mn l (ab (av ns (s+1+t))))),.v (.int (mx h (ab (av ns (s+1+t))))),.v (.int ((s+1+t:Nat):Int)),.v (.bl (decide (mx h (ab (av ns (s+1+t)))-mn l (ab (av ns (s+1+t)))=((s+1+t:Nat):Int)-s)))]):=by
 have ix:=ix_nat (av_at h1);have ix0:=ix_nat (av_at (ns:=ns) (i:=s) (by omega))
 generalize ea:av ns (s+1+t)=a at *;generalize e0:av ns s=a0 at *;refine rM (s:=[.v (IL ns),.v (.int s),.o (PL acc),.v (.int (mn l (ab a))),.v (.int h),.v (.int ((s+1+t:Nat):Int)),s6]) (set_d (x:=.int (mn l (ab a))) (cb_ev (rG rfl (rG (cb_ev (rG (rL rfl rfl rfl rfl ix) rfl) rfl (abs_ev a)) rfl)) rfl rfl) rfl) ?_;refine rM (s:=[.v (IL ns),.v (.int s),.o (PL acc),.v (.int (mn l (ab a))),.v (.int (mx h (ab a))),.v (.int ((s+1+t:Nat):Int)),s6]) (set_d (x:=.int (mx h (ab a))) (cb_ev (rG rfl (rG (cb_ev (rG (rL rfl rfl rfl rfl ix) rfl) rfl (abs_ev a)) rfl)) rfl rfl) rfl) ?_;generalize mn l (ab a)=l' at *;generalize mx h (ab a)=h' at *;refine rM (s:=[.v (IL ns),.v (.int s),.o (PL acc),.v (.int l'),.v (.int h'),.v (.int ((s+1+t:Nat):Int)),.v (.bl (decide (h'-l'=((s+1+t:Nat):Int)-s)))]) (set_d (rL (rL rfl rfl rfl rfl rfl) (rL rfl rfl rfl rfl rfl) rfl rfl eqDI_ev) (fPut_ev (t:=s6) rfl h6)) ?_;by_cases q1:h'-l'=((s+1+t:Nat):Int)-s
 ·rw[decide_eq_true q1]at hs ⊢;have tst:fTest (fOp bInD (fTup (rZ (fOp bIx (fVar 0) (fVar 1)) (rZ (fOp bIx (fVar 0) (fVar 5)) fNil))) (fTup (rZ (fTup (rZ (fVar 3) (rZ (fVar 4) fNil))) (rZ (fTup (rZ (fUn uNeg (fVar 4)) (rZ (fUn uNeg (fVar 3)) fNil))) fNil)))) [.v (IL ns),.v (.int s),.o (PL acc),.v (.int l'),.v (.int h'),.v (.int ((s+1+t:Nat):Int)),.v (.bl true)]=some (pairB a0 a l' h',[.v (IL ns),.v (.int s),.o (PL acc),.v (.int l'),.v (.int h'),.v (.int ((s+1+t:Nat):Int)),.v (.bl true)]) :=
   pN (rL (tup_ev (rG (rL rfl rfl rfl rfl ix0) (rG (rL rfl rfl rfl rfl ix) rfl)) rfl (by simp)) (tup_ev (rG (tup_ev rfl rfl (by simp)) (rG (tup_ev rfl rfl (by simp)) rfl)) rfl (by simp)) rfl rfl in_pair) rfl
  rw[Bool.true_and]at hs;by_cases q2:pairB a0 a l' h'=true
  ·rw[q2]at tst;rw[hs,if_pos q2];refine if_t (and_t rfl tst) ?_;exact drop_ev (m_ev rfl rfl rfl (rG (r:=.d (prD (s,s+1+t))) (tup_ev rfl rfl (by simp)) rfl) rfl rfl rfl (app_ev (by rw[List.length_map];omega)) (by simp only[PL,List.map_append,List.map_cons,List.map_nil];rfl))
  ·rw[Bool.not_eq_true]at q2;rw[q2]at tst;rw[hs,q2,if_neg Bool.false_ne_true,List.append_nil];exact if_f (and_t rfl tst) rfl
 ·rw[decide_eq_false q1]at hs ⊢;rw[Bool.false_and]at hs;rw[hs,if_neg Bool.false_ne_true,List.append_nil];exact if_f (and_f rfl) rfl
theorem spans_from_ev {ns:List Int} {s:Nat} (hs:s<ns.length) (hl:ns.length<=100):G_spans_from [IL ns,.int s]=some (PL (frm ns s),true):=by
 obtain⟨sf,el,s5,s6,rfl,_⟩:=forL_list (fg:=gN 5) (B:=B_spans_from_1) (fun t:Nat=>D.int ((s+1+t:Nat):Int)) (List.range (ns.length-(s+1))) (fun gone st=>∃s5 s6,st=[.v (IL ns),.v (.int s),.o (PL (fromK ns s gone.length)),.v (.int (lo ns s gone.length)),.v (.int (hi ns s gone.length)),s5,s6]/\s5.isIo=false/\s6.isIo=false)
  (by
   rintro gone t rest st ha ⟨s5,s6,rfl,i5,i6⟩;obtain⟨rfl,ht⟩:=rng_split ha;rw[List.length_append,List.length_range,List.length_singleton];refine⟨_,_,gN_ev (t:=s5) rfl i5,from_turn (s:=s) (t:=t) (acc:=fromK ns s t) (l:=lo ns s t) (h:=hi ns s t) (by omega) ?_ i6 ?_,⟨.v (.int ((s+1+t:Nat):Int)),.v (.bl _),by rw[fromK_succ];rfl,rfl,rfl⟩⟩
   ·unfold fromK;rw[List.length_map];have:=List.length_filter_le (spB ns s) ((List.range t).map fun t=>s+1+t);rw[List.length_map,List.length_range]at this;omega
   ·show spK ns s (s+1+t-s)=_;have e1:s+1+t-s=t+1:=by omega
    have e2:s+(t+1)=s+1+t:=by omega
    have e3:((s+1+t:Nat):Int)-s=((t+1:Nat):Int):=by omega
    rw[e1,e3];unfold spK
    rw[e2];rfl)
  (List.range (ns.length-(s+1))) [] [.v (IL ns),.v (.int s),.o (.lst []),.v (.int (ab (av ns s))),.v (.int (ab (av ns s))),.e,.e] rfl ⟨.e,.e,rfl,rfl,rfl⟩
 rw[List.length_range]at el;refine body_ev (o:=.rt (.s 2) [.v (IL ns),.v (.int s),.o (PL (fromK ns s (ns.length-(s+1)))),.v (.int (lo ns s (ns.length-(s+1)))),.v (.int (hi ns s (ns.length-(s+1)))),s5,s6]) rfl ?_ rfl;refine rM (s:=[.v (IL ns),.v (.int s),.o (.lst []),.e,.e,.e,.e]) rfl ?_;refine rM (s:=[.v (IL ns),.v (.int s),.o (.lst []),.v (.int (ab (av ns s))),.e,.e,.e]) (set_d (x:=.int (ab (av ns s))) (cb_ev (rG (rL rfl rfl rfl rfl (ix_nat (av_at hs))) rfl) rfl (abs_ev _)) rfl) ?_;refine rM (s:=[.v (IL ns),.v (.int s),.o (.lst []),.v (.int (ab (av ns s))),.v (.int (ab (av ns s))),.e,.e]) rfl ?_;refine rM (for_ev (ds:=(List.range (ns.length-(s+1))).map fun t:Nat=>D.int ((s+1+t:Nat):Int)) (s1:=[.v (IL ns),.v (.int s),.o (.lst []),.v (.int (ab (av ns s))),.v (.int (ab (av ns s))),.e,.e]) ?_ el) rfl;have r:=rng2_ev (fa:=rZ (fOp bAdd (fVar 1) (fC (.int 1))) (rZ (fCB bLen (rZ (fVar 0) fNil)) fNil)) (st:=[.v (IL ns),.v (.int s),.o (.lst []),.v (.int (ab (av ns s))),.v (.int (ab (av ns s))),.e,.e]) (i:=((s+1:Nat):Int)) (j:=(ns.length:Int)) (rs:=[.d (.int ((s+1:Nat):Int)),.d (.int (ns.length:Int))]) (rG rfl (rG (cb_ev rfl rfl (len_IL ns)) rfl)) rfl ⟨by omega,by omega,by omega,by omega⟩
 have e:((ns.length:Int)-((s+1:Nat):Int)).toNat=ns.length-(s+1):=by omega (config:={})
 rw[e,rng_nat]at r;exact r
theorem put_new {ns:List Int} {l:List (Nat×Nat)} {p:Nat×Nat} {b:D} {s3:Sl} (h:p∉l) (hl:l.length<100000) (h3:s3.isIo=false) :
  ∃s1,gN 3 (prD p) [.v (IL ns),.o (DT l),.v b,s3]=some s1/\B_spans_of_1 s1=some (.nx [.v (IL ns),.o (DT (l++[p])),.v b,.v (prD p)]) :=
 ⟨_,gN_ev (t:=s3) rfl h3,put_ev rfl rfl rfl rfl rfl rfl rfl rfl (dput_ev h hl)⟩
theorem spans_of_ev {ns:List Int} (hl:ns.length<=100):G_spans_of [IL ns]=some (DT (S ns),true):=by
 have small:∀n,n<=ns.length->(Sp ns n).length<100000:=fun n hn=>by
  have:=Sp_len ns n;have:n*ns.length<=100*100:=Nat.mul_le_mul (by omega) hl
  omega
 obtain⟨sf,el,s2,s3,rfl,_⟩:=forL_list (fg:=gN 2) (B:=B_spans_of_2) (fun t:Nat=>D.int (0+(t:Int))) (List.range ns.length) (fun gone st=>∃s2 s3,st=[.v (IL ns),.o (DT (Sp ns gone.length)),s2,s3]/\s2.isIo=false/\s3.isIo=false)
  (by
   rintro gone t rest st ha ⟨s2,s3,rfl,i2,i3⟩;obtain⟨rfl,ht⟩:=rng_split ha;rw[List.length_append,List.length_range,List.length_singleton];have nd:=Sp_nd ns (t+1);rw[Sp_succ]at nd;have sm:=small (t+1) (by omega)
   rw[Sp_succ,List.length_append]at sm;obtain⟨sf,el,s3',rfl,i3'⟩:=forL_list (fg:=gN 3) (B:=B_spans_of_1) prD (frm ns t) (fun gone st=>∃s3,st=[.v (IL ns),.o (DT (Sp ns t++gone)),.v (.int (t:Int)),s3]/\s3.isIo=false)
    (by
     rintro g2 p r2 st hp ⟨s3,rfl,i3⟩
     obtain⟨s1,e1,e2⟩:=put_new (ns:=ns) (l:=Sp ns t++g2) (p:=p) (b:=.int (t:Int)) (s3:=s3) (fun z=>by
      rw[hp,← List.append_assoc]at nd;have:=(List.nodup_append.mp nd).2.2 p z p List.mem_cons_self;exact this rfl) (by
      rw[hp]at sm;rw[List.length_append]at sm ⊢
      omega) i3
     exact⟨s1,_,e1,e2,.v (prD p),by rw[List.append_assoc],rfl⟩)
    (frm ns t) [] [.v (IL ns),.o (DT (Sp ns t)),.v (.int (t:Int)),s3] rfl ⟨s3,by rw[List.append_nil],i3⟩
   refine⟨[.v (IL ns),.o (DT (Sp ns t)),.v (.int (t:Int)),s3],_,gN_ev (t:=s2) rfl i2 (by rw[Int.zero_add];rfl),for_ev (il_ev (call_ev rfl rfl (spans_from_ev ht hl)) rfl) el,.v (.int (t:Int)),s3',by rw[Sp_succ],rfl,i3'⟩)
  (List.range ns.length) [] [.v (IL ns),.o (DT []),.e,.e] rfl ⟨.e,.e,rfl,rfl,rfl⟩
 rw[List.length_range]at el;refine body_ev (o:=.rt (.s 1) [.v (IL ns),.o (DT (Sp ns ns.length)),s2,s3]) rfl ?_ rfl;refine rM (s:=[.v (IL ns),.o (DT []),.e,.e]) rfl ?_;exact rM (for_ev (rng1_ev (j:=(ns.length:Int)) (rG (cb_ev rfl rfl (len_IL ns)) rfl) rfl ⟨by omega,by omega⟩) el) rfl
noncomputable def fallsB (l:List (Nat×Nat)) (s e:Nat):Bool:=(List.range (e-(s+1))).any fun t=>decide ((s,s+1+t)∈l)&&decide ((s+1+t,e)∈l)
theorem asBls_map {α:Type} (f:α->Bool):∀l:List α,asBls (l.map fun x=>D.bl (f x))=some (l.map f)
 | []=>rfl
 | x::r=>by
  show(asBls (r.map fun x=>D.bl (f x))).bind (fun bs=>some (f x::bs))=_;rw[asBls_map f r];rfl
theorem bAny_map {α:Type} (f:α->Bool) (l:List α):bAny [.lst (l.map fun x=>D.bl (f x))]=some (.bl (l.any f),false):=by
 show(asBls (l.map fun x=>D.bl (f x))).bind (fun bs=>some (D.bl (bs.any id),false))=_;rw[asBls_map];show some (D.bl ((l.map f).any id),false)=_;rw[List.any_map];rfl
theorem andV_ev {fa fb:FE} {st s:En} {r:Rs} {c:Bool} {d:Bool} {s2:En} (h:fa st=some (r,s)) (h1:tru s r=some c) (h2:c=true->fb s=some (.d (.bl d),s2)) (h3:c=false->d=false/\s2=s):fAndV fa fb st=some (.d (.bl d),s2):=by
 cases c with
 | true=>exact andV_t h h1 (h2 rfl)
 | false =>
  obtain⟨rfl,rfl⟩:=h3 rfl;simp only[fAndV,h,h1,Option.bind_some,Bool.false_eq_true,if_false]
theorem falls_ev {l:List (Nat×Nat)} {s e:Nat} (hs:s<=1000) (he:e<=1000):G_falls_apart [prD (s,e),DT l]=some (.bl (fallsB l s e),false):=by
 have cl:=compL_lmap (fg:=gN 0) (fc:=fYes) (fe:=E_falls_apart_1) (k:=1) (fun t:Nat=>D.int ((s+1+t:Nat):Int)) (fun t=>D.bl (decide ((s,s+1+t)∈l)&&decide ((s+1+t,e)∈l))) [.e,.v (DT l),.v (prD (s,e))] (List.range (e-(s+1))) fun t _=>by
  refine⟨[.v (.int ((s+1+t:Nat):Int)),.v (DT l),.v (prD (s,e))],[.v (.int ((s+1+t:Nat):Int)),.v (DT l),.v (prD (s,e))],.d (.bl (decide ((s,s+1+t)∈l)&&decide ((s+1+t,e)∈l))),[.v (.int ((s+1+t:Nat):Int)),.v (DT l),.v (prD (s,e))],[.v (.int ((s+1+t:Nat):Int)),.v (DT l),.v (prD (s,e))],rfl,rfl,?_,rfl,rfl⟩;refine andV_ev (c:=decide ((s,s+1+t)∈l)) (rL (tup_ev (rG (rL rfl rfl rfl rfl (ixT_nat (i:=0) rfl)) rfl) rfl (by simp)) rfl rfl rfl (din_ev (a:=s) (b:=s+1+t))) rfl (fun q=>?_) (fun q=>⟨by rw[q];rfl,rfl⟩)
  rw[q,Bool.true_and];exact rL (tup_ev (rG rfl (rG (rL rfl rfl rfl rfl (ixT_nat (i:=1) rfl)) rfl)) rfl (by simp)) rfl rfl rfl (din_ev (a:=s+1+t) (b:=e))
 have r:=rng2_ev (fa:=rZ (fOp bAdd (fOp bIx (fVar 0) (fC (.int 0))) (fC (.int 1))) (rZ (fOp bIx (fVar 0) (fC (.int 1))) fNil)) (st:=[.v (prD (s,e)),.v (DT l)]) (i:=((s+1:Nat):Int)) (j:=(e:Int)) (rs:=[.d (.int ((s+1:Nat):Int)),.d (.int (e:Int))]) (s1:=[.v (prD (s,e)),.v (DT l)]) (rG (rL (rL rfl rfl rfl rfl (ixT_nat (i:=0) rfl)) rfl rfl rfl rfl) (rG (rL rfl rfl rfl rfl (ixT_nat (i:=1) rfl)) rfl)) rfl ⟨by omega,by omega,by omega,by omega⟩
 have e1:((e:Int)-((s+1:Nat):Int)).toNat=e-(s+1):=by omega (config:={})
 rw[e1,rng_nat]at r;exact body_ev (o:=.rt (.d (.bl (fallsB l s e))) [.v (prD (s,e)),.v (DT l)]) rfl (ret_ev (cb_ev (rG (comp_ev r (few2 (n:=1000) (by rw[List.length_map,List.length_range];omega) rfl) cl) rfl) rfl (bAny_map _ _))) rfl
theorem lt_pr {p q:Nat×Nat} (h:lex p q):ltN 40 (prD p) (prD q)=true:=by
 show ltL (ltN 39) [.int p.1,.int p.2] [.int q.1,.int q.2]=true;rcases h with h|⟨h1,h2⟩
 ·rw[ltL_cons_ne (by intro z;injection z with z;omega)]
  show decide ((p.1:Int)<q.1)=true;rw[decide_eq_true (by omega)]
 ·rw[h1,ltL_cons_eq,ltL_cons_ne (by intro z;injection z with z;omega)]
  show decide ((p.2:Int)<q.2)=true;rw[decide_eq_true (by omega)]
theorem cp_pr (p q:Nat×Nat):Cp 40 (prD p) (prD q):=by
 show ∀(i:Nat) x y,([.int p.1,.int p.2]:List D)[i]?=some x->([.int q.1,.int q.2]:List D)[i]?=some y->Cp 39 x y;intro i x y h1 h2
 match i with
 | 0=>cases h1;cases h2;trivial
 | 1=>cases h1;cases h2;trivial
 | n+2=>simp at h1
theorem pl_pr (p:Nat×Nat):Pl 40 (prD p):=.tup fun d hd=>by
 rcases List.mem_cons.mp hd with rfl|hd
 ·exact .int _ _
 ·rw[List.mem_singleton.mp hd];exact .int _ _
theorem sortT_ev {l:List (Nat×Nat)} (h:l.Pairwise lex):bSortT [DT l]=some (PL l,true):=by
 have e:keysOfD (DT l)=some (l.map prD):=by
  show some ((l.map fun p=>(([.inl (p.1:Int),.inl (p.2:Int)]:List Key),D.bl true)).map fun kv=>D.tup (kv.1.map keyT))=_;rw[List.map_map];rfl
 have ca:CA 40 (l.map prD):=fun a ha b hb=>by
  obtain⟨p,_,rfl⟩:=List.mem_map.mp ha;obtain⟨q,_,rfl⟩:=List.mem_map.mp hb;exact cp_pr p q
 have es:l.map prD=sortD 40 (l.map prD):=sortD_uniq ca (List.Perm.refl _) (by
  unfold Srt;rw[List.pairwise_map]
  exact List.Pairwise.imp (fun {a b} hab=>ltN_asy _ _ _ (lt_pr hab)) h)
 unfold bSortT;simp only[e]
 rw[if_pos ⟨fun x hx=>by obtain⟨p,_,rfl⟩:=List.mem_map.mp hx;exact pl_pr p,ca,_,.tp (T:="int") fun d hd=>by
  obtain⟨p,_,rfl⟩:=List.mem_map.mp hd
  exact⟨_,_,rfl,by simp,rfl⟩⟩,← es]
noncomputable def W (ns:List Int):List (Nat×Nat):=(S ns).filter fun p=>!fallsB (S ns) p.1 p.2
theorem whole_ev {ns:List Int} (hl:ns.length<=100):G_whole_spans [IL ns]=some (PL (W ns),true):=by
 have cl:=compL_list (fg:=gN 0) (fc:=C_whole_spans_1) (fe:=E_whole_spans_1) (k:=1) prD prD (fun p=>!fallsB (S ns) p.1 p.2) [.e,.o (DT (S ns))] (S ns) fun p hp=>by
  have hm:=Sp_mem hp;refine⟨[.v (prD p),.o (DT (S ns))],[.v (prD p),.o (DT (S ns))],rfl,not_ev (pN (callS_ev rfl rfl (falls_ev (l:=S ns) (s:=p.1) (e:=p.2) (by omega) (by omega)) rfl) rfl),fun _=>rfl,fun _=>⟨.d (prD p),[.v (prD p),.o (DT (S ns))],[.v (prD p),.o (DT (S ns))],rfl,rfl,rfl⟩⟩
 have sl:(S ns).length<=10000:=by
  have:=Sp_len ns ns.length;have:ns.length*ns.length<=100*100:=Nat.mul_le_mul hl hl;unfold S;omega
 refine body_ev (o:=.rt (.f (PL (W ns))) [.v (IL ns),.o (DT (S ns))]) rfl ?_ rfl;refine rM (s:=[.v (IL ns),.o (DT (S ns))]) (set_f (call_ev rfl rfl (spans_of_ev hl)) rfl) ?_;exact ret_ev (comp_ev (il_ev (cb_ev rfl rfl (sortT_ev (Sp_lex ns _))) rfl) (few2 (n:=10000) (by rw[List.length_map];exact sl) rfl) cl)
end K43
namespace VF
open PySem L2
theorem sort_ints (xs:List Int):∃L:List Int,L.Perm xs/\L.Pairwise (·<=·)/\∀d:D,d.seq=some (xs.map D.int)->bSortD [d]=some (.lst (L.map D.int),true):=by
 refine⟨xs.mergeSort,List.mergeSort_perm _ _,?_,fun d hd=>?_⟩
 ·have:=List.pairwise_mergeSort (le:=fun a b:Int=>decide (a<=b)) (fun a b c h1 h2=>by simp only[decide_eq_true_eq]at *;omega) (fun a b=>by simp only[Bool.or_eq_true,decide_eq_true_eq];omega) xs
  exact List.Pairwise.imp (fun h=>of_decide_eq_true h) this
 ·have ca:CA 40 (xs.map D.int):=fun a ha b hb=>by
   obtain⟨p,_,rfl⟩:=List.mem_map.mp ha;obtain⟨q,_,rfl⟩:=List.mem_map.mp hb;trivial
  have pw:=List.pairwise_mergeSort (le:=fun a b:Int=>decide (a<=b)) (fun a b c h1 h2=>by simp only[decide_eq_true_eq]at *;omega) (fun a b=>by simp only[Bool.or_eq_true,decide_eq_true_eq];omega) xs
  have es:(xs.mergeSort).map D.int=sortD 40 (xs.map D.int):=sortD_uniq ca ((List.mergeSort_perm _ _).map _) (by
   unfold Srt;rw[List.pairwise_map];refine List.Pairwise.imp (fun {a b} hab=>?_) pw;have h:=of_decide_eq_true hab
   exact decide_eq_false (by omega))
  unfold bSortD;simp only[hd]
  rw[if_pos ⟨fun x hx=>by obtain⟨p,_,rfl⟩:=List.mem_map.mp hx;exact .int _ _,ca,_,.sc (T:="int") (by decide) fun d hd=>by
   obtain⟨p,_,rfl⟩:=List.mem_map.mp hd
   exact⟨by simp,rfl⟩⟩,← es]
theorem slL_ev {ds:List D} {a b:Nat} (h:a<=b) (hb:b<=ds.length):bSl (.lst ds) (some (a:Int)) (some (b:Int))=some (.lst ((ds.drop a).take (b-a)),true):=by
 have e1:bSlL (.lst ds) (some (a:Int)) (some (b:Int))=some (.lst ((ds.drop a).take (b-a)),true):=by
  show some (D.lst (cutD ds (some (a:Int)) (some (b:Int))),true)=_;unfold cutD;rw[HT.sIx_nat,HT.sIx_nat,Nat.min_eq_left (by omega),Nat.min_eq_left (by omega)]
 unfold bSl orS;rw[e1]
open Classical in
theorem neD_ints {a b:List Int} (h:b≠[]):bNeD (.lst (a.map D.int)) (.lst (b.map D.int))=some (.bl (!decide (a=b)),false):=by
 have pl:∀l:List Int,Pl 40 (.lst (l.map D.int)):=fun l=>.lst fun d hd=>by
  obtain⟨p,_,rfl⟩:=List.mem_map.mp hd;exact .int _ _
 have e1:bEqS true (.lst (a.map D.int)) (.lst (b.map D.int))=none:=rfl;have inj:(D.lst (a.map D.int)=D.lst (b.map D.int))↔a=b:=by
  constructor
  ·intro z;injection z with z;exact List.map_inj_right (fun x y e=>by injection e) |>.mp z
  ·rintro rfl;rfl
 have e3:bEqP true (.lst (a.map D.int)) (.lst (b.map D.int))=some (.bl (!decide (a=b)),false):=by
  unfold bEqP;rw[if_pos ⟨pl a,pl b⟩];simp only[if_true];congr 4;exact decide_eq_decide.mpr inj
 cases b with
 | nil=>exact absurd rfl h
 | cons y ys =>
  have e2:bNeE (.lst (a.map D.int)) (.lst ((y::ys).map D.int))=none:=rfl;unfold bNeD bNe orD;rw[e1,e2];exact e3
end VF
namespace K43
open PySem L2 VF VF22
theorem mn_le (a b:Int):mn a b<=a/\mn a b<=b/\(mn a b=a∨mn a b=b):=by unfold mn;split<;>omega
theorem mx_le (a b:Int):a<=mx a b/\b<=mx a b/\(mx a b=a∨mx a b=b):=by unfold mx;split<;>omega
theorem lo_ok (ns : List Int) (s : Nat) : ∀ k, (∀ t, t ≤ k → lo ns s k ≤ ab (av ns (s + t))) ∧ ∃ t, t ≤ k ∧ lo ns s k = ab (av ns (s + t))
  | 0 => ⟨fun t ht => by have : t = 0 := by omega
                         subst this; exact Int.le_refl _, 0, Nat.le_refl _, rfl⟩
  | k + 1 => by
    obtain ⟨h1, t0, h2, h3⟩ := lo_ok ns s k;have m := mn_le (lo ns s k) (ab (av ns (s + 1 + k)));have e : s + 1 + k = s + (k + 1) := by omega
    refine ⟨fun t ht => ?_, ?_⟩
    · show mn _ _ ≤ _
      by_cases q : t ≤ k
      · have := h1 t q; omega
      · have : t = k + 1 := by omega
        subst this;rw [← e]; omega
    · rcases m.2.2 with q | q
      · exact ⟨t0, by omega, q.trans h3⟩
      · exact ⟨k + 1, Nat.le_refl _, by rw [← e]; exact q⟩
theorem hi_ok (ns : List Int) (s : Nat) : ∀ k, (∀ t, t ≤ k → ab (av ns (s + t)) ≤ hi ns s k) ∧ ∃ t, t ≤ k ∧ hi ns s k = ab (av ns (s + t))
  | 0 => ⟨fun t ht => by have : t = 0 := by omega
                         subst this; exact Int.le_refl _, 0, Nat.le_refl _, rfl⟩
  | k + 1 => by
    obtain ⟨h1, t0, h2, h3⟩ := hi_ok ns s k;have m := mx_le (hi ns s k) (ab (av ns (s + 1 + k)));have e : s + 1 + k = s + (k + 1) := by omega
    refine ⟨fun t ht => ?_, ?_⟩
    · show _ ≤ mx _ _
      by_cases q : t ≤ k
      · have := h1 t q; omega
      · have : t = k + 1 := by omega
        subst this;rw [← e]; omega
    · rcases m.2.2 with q | q
      · exact ⟨t0, by omega, q.trans h3⟩
      · exact ⟨k + 1, Nat.le_refl _, by rw [← e]; exact q⟩
theorem rises:∀{L:List Int},L.Pairwise (·<·)->∀{i j:Nat} {x y:Int},i<=j->L[i]?=some x->L[j]?=some y->x+((j-i:Nat):Int)<=y
 | [],_,i,j,x,y,_,h,_=>by simp at h
 | a::L,p,i,j,x,y,hij,h1,h2=>by
  rw[List.pairwise_cons]at p;cases j with
  | zero =>
   have:i=0:=by omega
   subst this;rw[h1]at h2;cases h2;simp
  | succ j =>
   cases i with
   | succ i =>
    have:=rises p.2 (i:=i) (j:=j) (by omega) (by simpa using h1) (by simpa using h2)
    rw[show j+1 - (i+1)=j - i by omega];exact this
   | zero =>
    cases h1;have hj:L[j]?=some y:=by simpa using h2
    have hl:=(List.getElem?_eq_some_iff.mp hj).1;have h0:L[0]?=some (L[0]'(by omega)):=List.getElem?_eq_getElem (by omega)
    have a1:=rises p.2 (i:=0) (j:=j) (by omega) h0 hj
    have a2:=p.1 _ (List.mem_of_getElem? h0);omega
theorem run_iff {L:List Int} {k:Nat} {l h:Int} (p:L.Pairwise (·<·)) (hl:L.length=k+1) (h0:L[0]?=some l) (h1:L[k]?=some h):L=(List.range (k+1)).map (fun t:Nat=>l+(t:Int))↔h-l=(k:Int):=by
 constructor
 ·intro e;rw[e,List.getElem?_map,List.getElem?_range (by omega)]at h1
  have:l+((k:Nat):Int)=h:=Option.some.inj h1;omega
 ·intro e;refine List.ext_getElem? fun i=>?_;by_cases hi:i<k+1
  ·rw[List.getElem?_map,List.getElem?_range hi];have hx:L[i]?=some (L[i]'(by omega)):=List.getElem?_eq_getElem (by omega)
   have a1:=rises p (i:=0) (j:=i) (by omega) h0 hx
   have a2:=rises p (i:=i) (j:=k) (by omega) hx h1
   rw[hx];have e3:L[i]=l+(i:Int):=by omega
   rw[e3];rfl
  ·rw[List.getElem?_eq_none (by omega),List.getElem?_eq_none (by rw[List.length_map,List.length_range];omega)]
theorem cut_eq {ns:List Int} {s k:Nat} (h:s+k<ns.length):(ns.drop s).take (k+1)=(List.range (k+1)).map fun t=>av ns (s+t):=by
 refine List.ext_getElem? fun i=>?_;by_cases hi:i<k+1
 ·rw[List.getElem?_take,if_pos hi,List.getElem?_drop,List.getElem?_map,List.getElem?_range hi,List.getElem?_eq_getElem (by omega)]
  show some _=some (ns.getD (s+i) 0);rw[List.getD_eq_getElem?_getD,List.getElem?_eq_getElem (by omega)];rfl
 ·rw[List.getElem?_take,if_neg hi,List.getElem?_eq_none (by rw[List.length_map,List.length_range];omega)]
theorem sorted_cut {c:Int} {ns:List Int} {s k:Nat} (N:Nm c ns) (h:s+k<ns.length):∃L:List Int,L.Pairwise (·<·)/\L.length=k+1/\L[0]?=some (lo ns s k)/\L[k]?=some (hi ns s k)/\∀d:D,d.seq=some (((List.range (k+1)).map fun t=>ab (av ns (s+t))).map D.int)->bSortD [d]=some (IL L,true):=by
 obtain⟨L,pm,pw,ev⟩:=sort_ints ((List.range (k+1)).map fun t=>ab (av ns (s+t)));have nd:((List.range (k+1)).map fun t=>ab (av ns (s+t))).Nodup:=by
  have e:((List.range (k+1)).map fun t=>ab (av ns (s+t)))=((ns.map ab).drop s).take (k+1):=by
   rw[← List.map_drop,← List.map_take,cut_eq h,List.map_map];rfl
  rw[e];exact List.Nodup.sublist ((List.take_sublist _ _).trans (List.drop_sublist _ _)) N.nd
 have ndL:L.Nodup:=pm.nodup_iff.mpr nd;have lt:L.Pairwise (·<·):=(pw.and ndL).imp fun h=>by have:=h.1;have:=h.2;omega
 have ln:L.length=k+1:=by rw[pm.length_eq,List.length_map,List.length_range]
 have mem:∀x,x∈L↔∃t,t<=k/\x=ab (av ns (s+t)):=fun x=>by
  rw[pm.mem_iff,List.mem_map];constructor
  ·rintro⟨t,ht,rfl⟩;exact⟨t,by have:=List.mem_range.mp ht;omega,rfl⟩
  ·rintro⟨t,ht,rfl⟩;exact⟨t,List.mem_range.mpr (by omega),rfl⟩
 obtain⟨l1,l2⟩:=lo_ok ns s k;obtain⟨u1,u2⟩:=hi_ok ns s k;have h0:L[0]?=some (L[0]'(by omega)):=List.getElem?_eq_getElem (by omega)
 have hk:L[k]?=some (L[k]'(by omega)):=List.getElem?_eq_getElem (by omega)
 obtain⟨i,hi⟩:=List.getElem?_of_mem ((mem _).mpr l2);obtain⟨j,hj⟩:=List.getElem?_of_mem ((mem _).mpr u2);have hil:=(List.getElem?_eq_some_iff.mp hi).1;have hjl:=(List.getElem?_eq_some_iff.mp hj).1;have a1:=rises lt (i:=0) (j:=i) (by omega) h0 hi
 have a2:=rises lt (i:=j) (j:=k) (by omega) hj hk
 obtain⟨t1,ht1,e1⟩:=(mem _).mp (List.mem_of_getElem? h0);obtain⟨t2,ht2,e2⟩:=(mem _).mp (List.mem_of_getElem? hk);have b1:=l1 t1 ht1;have b2:=u1 t2 ht2;refine⟨L,lt,ln,?_,?_,ev⟩
 ·rw[h0];congr 1;omega
 ·rw[hk];congr 1;omega
theorem ix_neg1 {L:List Int} {k:Nat} {x:Int} (hl:L.length=k+1) (h:L[k]?=some x):bIx (IL L) (.int (-1))=some (.int x,false):=ix_lst (by
 unfold atI ixN;rw[List.length_map,hl,if_neg (by omega),if_pos (by omega)]
 show(L.map D.int)[((-1:Int)+((k+1:Nat):Int)).toNat]?=_;have:((-1:Int)+((k+1:Nat):Int)).toNat=k:=by omega
 rw[this,List.getElem?_map,h];rfl)
theorem sp_or {a b l h:Int} {k:Nat} (hk:1<=k) (hl:0<=l) (hh:h-l=(k:Int)):pairB a b l h=if a=l then decide (b=h) else(decide (a=0-h)&&decide (b=0-l)):=by
 unfold pairB;by_cases q:a=l
 ·rw[if_pos q];refine decide_eq_decide.mpr ⟨fun z=>?_,fun z=>.inl ⟨q,z⟩⟩;rcases z with z|z
  ·exact z.2
  ·omega
 ·rw[if_neg q,← Bool.decide_and];refine decide_eq_decide.mpr ⟨fun z=>?_,fun z=>.inr ⟨by omega,by omega⟩⟩
  rcases z with z|z
  ·exact absurd z.1 q
  ·exact⟨by omega,by omega⟩
theorem is_span_ev {c:Int} {ns:List Int} {s e:Nat} (N:Nm c ns) (hc:c<=2000) (h:s<e) (he:e<ns.length) (hl:ns.length<=100):G_law_is_span [IL ns,.int s,.int e]=some (.bl (spB ns s e),false):=by
 obtain⟨k,rfl⟩:∃k,e=s+k:=⟨e-s,by omega⟩
 obtain⟨L,lt,ln,h0,hk,ev⟩:=sorted_cut N he;have l0:0<=lo ns s k:=by
  obtain⟨_,t,_,e⟩:=lo_ok ns s k;rw[e];exact ab_nn _
 have lc:lo ns s k<=2000:=by
  obtain⟨_,t,ht,e⟩:=lo_ok ns s k;rw[e];have:av ns (s+t)∈ns:=by
   unfold av;rw[List.getD_eq_getElem?_getD,List.getElem?_eq_getElem (by omega)]
   exact List.getElem_mem _
  exact Int.le_trans (N.le _ this) hc
 have sp:spB ns s (s+k)=(decide (hi ns s k-lo ns s k=(k:Int))&&pairB (av ns s) (av ns (s+k)) (lo ns s k) (hi ns s k)):=by
  unfold spB;rw[show s+k - s=k by omega];rfl
 have ri:=run_iff lt ln h0 hk;have ix0:bIx (IL L) (.int 0)=some (.int (lo ns s k),false):=ix_nat (i:=0) (by rw[List.getElem?_map,h0];rfl)
 have ixk:=ix_neg1 ln hk;have ixs:=ix_nat (av_at (ns:=ns) (i:=s) (by omega))
 have ixe:=ix_nat (av_at (ns:=ns) (i:=s+k) he);generalize lo ns s k=l at *;generalize hi ns s k=u at *;generalize av ns s=a at *;have fst:∀st,st=[.v (IL ns),.v (.int (s:Int)),.v (.int ((s+k:Nat):Int)),.e]->(sSet (fCB bSortD (rZ (fComp 1 [] (fIA (fSl bSl (fVar 0) (oPart (fVar 1)) (oPart (fOp bAdd (fVar 2) (fC (.int 1)))))) (gN 0) fYes E_law_is_span_1) fNil)) 3) st=some (.nx [.v (IL ns),.v (.int (s:Int)),.v (.int ((s+k:Nat):Int)),.o (IL L)]):=by
  rintro st rfl;have cl:=compL_lmap (fg:=gN 0) (fc:=fYes) (fe:=E_law_is_span_1) (k:=1) D.int (fun x=>D.int (ab x)) [.e] ((List.range (k+1)).map fun t=>av ns (s+t)) fun x _=>⟨[.v (.int x)],[.v (.int x)],.d (.int (ab x)),[.v (.int x)],[.v (.int x)],rfl,rfl,cb_ev rfl rfl (abs_ev x),rfl,rfl⟩;have sl:=slL_ev (ds:=ns.map D.int) (a:=s) (b:=s+k+1) (by omega) (by rw[List.length_map];omega)
  rw[show s+k+1 - s=k+1 by omega,← List.map_drop,← List.map_take,cut_eq he]at sl
  have e2:(((List.range (k+1)).map fun t=>av ns (s+t)).map fun x=>D.int (ab x))=(((List.range (k+1)).map fun t=>ab (av ns (s+t))).map D.int):=by
   rw[List.map_map,List.map_map];rfl
  rw[e2]at cl;refine set_f (cb_ev (rG (comp_ev (il_ev (sl_ev rfl (oPart_ev rfl rfl) (oPart_ev (i:=((s+k+1:Nat):Int)) rfl rfl) rfl sl) rfl) (few2 (n:=1000) (by rw[List.length_map,List.length_map,List.length_range];omega) rfl) cl) rfl) rfl (ev _ rfl)) rfl
 have snd:(sIf (fTest (fOp bNeD (fVar 3) (fLR2 (rZ (fOp bIx (fVar 3) (fC (.int 0))) (rZ (fOp bAdd (fOp bSub (fOp bAdd (fOp bIx (fVar 3) (fC (.int 0))) (fVar 2)) (fVar 1)) (fC (.int 1))) fNil))))) (sRet (fC (.bl false))) sNext) [.v (IL ns),.v (.int (s:Int)),.v (.int ((s+k:Nat):Int)),.o (IL L)]=if u-l=(k:Int) then some (.nx [.v (IL ns),.v (.int (s:Int)),.v (.int ((s+k:Nat):Int)),.o (IL L)]) else some (.rt (.d (.bl false)) [.v (IL ns),.v (.int (s:Int)),.v (.int ((s+k:Nat):Int)),.o (IL L)]):=by
  have r:=lr2_ev (fa:=rZ (fOp bIx (fVar 3) (fC (.int 0))) (rZ (fOp bAdd (fOp bSub (fOp bAdd (fOp bIx (fVar 3) (fC (.int 0))) (fVar 2)) (fVar 1)) (fC (.int 1))) fNil)) (st:=[.v (IL ns),.v (.int (s:Int)),.v (.int ((s+k:Nat):Int)),.o (IL L)]) (i:=l) (j:=l+((s+k:Nat):Int)-s+1) (rs:=[.d (.int l),.d (.int (l+((s+k:Nat):Int)-s+1))]) (s:=[.v (IL ns),.v (.int (s:Int)),.v (.int ((s+k:Nat):Int)),.o (IL L)]) (rG (rL rfl rfl rfl rfl ix0) (rG (rL (rL (rL (rL rfl rfl rfl rfl ix0) rfl rfl rfl rfl) rfl rfl rfl rfl) rfl rfl rfl rfl) rfl)) rfl ⟨by omega,by omega,by omega,by omega,by omega⟩
  have e1:(l+((s+k:Nat):Int)-s+1-l).toNat=k+1:=by omega
  have e2:rng l (k+1)=((List.range (k+1)).map fun t:Nat=>l+(t:Int)).map D.int:=by unfold rng;rw[List.map_map];rfl
  rw[e1,e2]at r;have ne:=neD_ints (a:=L) (b:=(List.range (k+1)).map fun t:Nat=>l+(t:Int)) (by intro z;have:=congrArg List.length z;simp at this)
  by_cases q:u-l=(k:Int)
  ·rw[if_pos q];rw[decide_eq_true (ri.mpr q)]at ne;exact if_f (pN (rL rfl r rfl rfl ne) rfl) rfl
  ·rw[if_neg q];rw[decide_eq_false (fun z=>q (ri.mp z))]at ne;exact if_t (pN (rL rfl r rfl rfl ne) rfl) rfl
 rw[sp];by_cases q:u-l=(k:Int)
 ·rw[if_pos q]at snd;rw[decide_eq_true q,Bool.true_and,sp_or (by omega) l0 q]
  by_cases q2:a=l
  ·rw[if_pos q2];refine body_ev (o:=.rt (.d (.bl (decide (av ns (s+k)=u)))) [.v (IL ns),.v (.int (s:Int)),.v (.int ((s+k:Nat):Int)),.o (IL L)]) rfl (rM (fst _ rfl) (rM snd (seq_rt ?_))) rfl;exact if_t (pN (rL (rL rfl rfl rfl rfl ixs) (rL rfl rfl rfl rfl ix0) rfl rfl eqDI_ev) (by show some (decide (a=l))=_;rw[decide_eq_true q2])) (ret_ev (rL (rL rfl rfl rfl rfl ixe) (rL rfl rfl rfl rfl ixk) rfl rfl eqDI_ev))
  ·rw[if_neg q2];refine body_ev (o:=.rt (.d (.bl (decide (a=0-u)&&decide (av ns (s+k)=0-l)))) [.v (IL ns),.v (.int (s:Int)),.v (.int ((s+k:Nat):Int)),.o (IL L)]) rfl (rM (fst _ rfl) (rM snd (rM (s:=[.v (IL ns),.v (.int (s:Int)),.v (.int ((s+k:Nat):Int)),.o (IL L)]) (if_f (pN (rL (rL rfl rfl rfl rfl ixs) (rL rfl rfl rfl rfl ix0) rfl rfl eqDI_ev) (by show some (decide (a=l))=_;rw[decide_eq_false q2])) rfl) ?_))) rfl
   refine ret_ev (andV_ev (c:=decide (a=0-u)) (rL (rL rfl rfl rfl rfl ixs) (rL rfl (rL rfl rfl rfl rfl ixk) rfl rfl rfl) rfl rfl eqDI_ev) rfl (fun z=>?_) (fun z=>⟨by rw[z];rfl,rfl⟩))
   rw[z,Bool.true_and];exact rL (rL rfl rfl rfl rfl ixe) (rL rfl (rL rfl rfl rfl rfl ix0) rfl rfl rfl) rfl rfl eqDI_ev
 ·rw[if_neg q]at snd;rw[decide_eq_false q,Bool.false_and];exact body_ev (o:=.rt (.d (.bl false)) [.v (IL ns),.v (.int (s:Int)),.v (.int ((s+k:Nat):Int)),.o (IL L)]) rfl (rM (fst _ rfl) (seq_rt snd)) rfl
theorem gT2_ev {i j:Nat} {a b:D} {st s1 s2:En} {t u:Sl} (h1:st[i]?=some t) (ht:t.isIo=false) (e1:st.set i (.v a)=s1) (h2:s1[j]?=some u) (hu:u.isIo=false) (e2:s1.set j (.v b)=s2):gT 2 (gsC (gN i) (gsC (gN j) gsN)) (.tup [a,b]) st=some s2:=by
 show(gN i a st).bind (fun st1=>(gN j b st1).bind fun st2=>some st2)=_;rw[gN_ev h1 ht e1,Option.bind_some,gN_ev h2 hu e2];rfl
theorem wholes_put {c:Int} {ns:List Int} {s t:Nat} (N:Nm c ns) (hc:c<=2000) (hl:ns.length<=100) (ht:s+1+t<ns.length) {l:List (Nat×Nat)} (hn:(s,s+1+t)∉l) (hk:l.length<100000) :
  B_law_wholes_1 [.v (IL ns),.o (DT l),.v (.int (s:Int)),.v (.int ((s+1+t:Nat):Int)),.e]=some (.nx [.v (IL ns),.o (DT (l++if spB ns s (s+1+t)=true then [(s,s+1+t)] else [])),.v (.int (s:Int)),.v (.int ((s+1+t:Nat):Int)),.e]):=by
 have ev:=is_span_ev (e:=s+1+t) N hc (s:=s) (by omega) ht hl
 by_cases q:spB ns s (s+1+t)=true
 ·rw[if_pos q];rw[q]at ev;refine if_t (pN (callS_ev rfl rfl ev rfl) rfl) ?_;exact put_ev rfl rfl rfl rfl (tup_ev rfl rfl (by simp)) rfl rfl rfl (dput_ev (p:=(s,s+1+t)) hn hk)
 ·rw[Bool.not_eq_true]at q;rw[q]at ev ⊢;rw[if_neg Bool.false_ne_true,List.append_nil];exact if_f (pN (callS_ev rfl rfl ev rfl) rfl) rfl
theorem wholes_one {c:Int} {ns:List Int} (N:Nm c ns) (hc:c<=2000) (hl:ns.length<=100):∃s2 s3,sFor (fIR1 (rZ (fCB bLen (rZ (fVar 0) fNil)) fNil)) (gN 2) B_law_wholes_2 [.v (IL ns),.o (DT []),.e,.e,.e]=some (.nx [.v (IL ns),.o (DT (S ns)),s2,s3,.e])/\s2.isIo=false/\s3.isIo=false:=by
 have small:∀n,n<=ns.length->(Sp ns n).length<50000:=fun n hn=>by
  have:=Sp_len ns n;have:n*ns.length<=100*100:=Nat.mul_le_mul (by omega) hl
  omega
 obtain⟨sf,el,s2,s3,rfl,i2,i3⟩:=forL_list (fg:=gN 2) (B:=B_law_wholes_2) (fun t:Nat=>D.int (0+(t:Int))) (List.range ns.length) (fun gone st=>∃s2 s3,st=[.v (IL ns),.o (DT (Sp ns gone.length)),s2,s3,.e]/\s2.isIo=false/\s3.isIo=false)
  (by
   rintro gone t rest st ha ⟨s2,s3,rfl,i2,i3⟩;obtain⟨rfl,ht⟩:=rng_split ha;rw[List.length_append,List.length_range,List.length_singleton];obtain⟨sf,el,s3',rfl,i3'⟩:=forL_list (fg:=gN 3) (B:=B_law_wholes_1) (fun u:Nat=>D.int ((t+1+u:Nat):Int)) (List.range (ns.length-(t+1))) (fun gone st=>∃s3,st=[.v (IL ns),.o (DT (Sp ns t++fromK ns t gone.length)),.v (.int (t:Int)),s3,.e]/\s3.isIo=false)
    (by
     rintro g2 u r2 st hp ⟨s3,rfl,i3⟩;obtain⟨rfl,hu⟩:=rng_split hp;rw[List.length_append,List.length_range,List.length_singleton,fromK_succ,← List.append_assoc];refine⟨_,_,gN_ev (t:=s3) rfl i3,wholes_put N hc hl (s:=t) (t:=u) (by omega) (fun z=>?_) ?_,_,rfl,rfl⟩
     ·rcases List.mem_append.mp z with z|z
      ·have:=(Sp_mem z).1;exact absurd this (Nat.lt_irrefl t)
      ·have:=(fromK_mem z).2.2.1;exact absurd this (Nat.lt_irrefl _)
     ·have a:=small t (by omega)
      have b:(fromK ns t u).length<=u:=by
       unfold fromK;rw[List.length_map];refine Nat.le_trans (List.length_filter_le _ _) ?_;rw[List.length_map,List.length_range];omega
      rw[List.length_append];omega)
    (List.range (ns.length-(t+1))) [] [.v (IL ns),.o (DT (Sp ns t)),.v (.int (t:Int)),s3,.e] rfl ⟨s3,by rw[show fromK ns t ([]:List Nat).length=[] from rfl,List.append_nil],i3⟩
   rw[List.length_range]at el;have r:=rng2_ev (fa:=rZ (fOp bAdd (fVar 2) (fC (.int 1))) (rZ (fCB bLen (rZ (fVar 0) fNil)) fNil)) (st:=[.v (IL ns),.o (DT (Sp ns t)),.v (.int (t:Int)),s3,.e]) (i:=((t+1:Nat):Int)) (j:=(ns.length:Int)) (rs:=[.d (.int ((t+1:Nat):Int)),.d (.int (ns.length:Int))]) (s1:=[.v (IL ns),.o (DT (Sp ns t)),.v (.int (t:Int)),s3,.e]) (rG rfl (rG (cb_ev rfl rfl (len_IL ns)) rfl)) rfl ⟨by omega,by omega (config:={}),by omega,by omega (config:={})⟩
   have e:((ns.length:Int)-((t+1:Nat):Int)).toNat=ns.length-(t+1):=by omega (config:={})
   rw[e,rng_nat]at r
   exact⟨[.v (IL ns),.o (DT (Sp ns t)),.v (.int (t:Int)),s3,.e],_,gN_ev (t:=s2) rfl i2 (by rw[Int.zero_add];rfl),for_ev r el,.v (.int (t:Int)),s3',by rw[Sp_succ];rfl,rfl,i3'⟩)
  (List.range ns.length) [] [.v (IL ns),.o (DT []),.e,.e,.e] rfl ⟨.e,.e,rfl,rfl,rfl⟩
 rw[List.length_range]at el;exact⟨s2,s3,for_ev (rng1_ev (j:=(ns.length:Int)) (rG (cb_ev rfl rfl (len_IL ns)) rfl) rfl ⟨by omega,by omega (config:={})⟩) el,i2,i3⟩
theorem any_ev {ns:List Int} {l f:List (Nat×Nat)} {s e:Nat} (hs:s<=1000) (he:e<=1000):fTest (fCB bAny (rZ (fComp 1 [1,2,3] (fIR2 (rZ (fOp bAdd (fVar 2) (fC (.int 1))) (rZ (fVar 3) fNil))) (gN 0) fYes E_law_wholes_1) fNil)) [.v (IL ns),.v (DT l),.v (.int (s:Int)),.v (.int (e:Int)),.o (PL f)]=some (fallsB l s e,[.v (IL ns),.v (DT l),.v (.int (s:Int)),.v (.int (e:Int)),.o (PL f)]):=by
 have cl:=compL_lmap (fg:=gN 0) (fc:=fYes) (fe:=E_law_wholes_1) (k:=1) (fun t:Nat=>D.int ((s+1+t:Nat):Int)) (fun t=>D.bl (decide ((s,s+1+t)∈l)&&decide ((s+1+t,e)∈l))) [.e,.v (DT l),.v (.int (s:Int)),.v (.int (e:Int))] (List.range (e-(s+1))) fun t _=>by
  refine⟨[.v (.int ((s+1+t:Nat):Int)),.v (DT l),.v (.int (s:Int)),.v (.int (e:Int))],[.v (.int ((s+1+t:Nat):Int)),.v (DT l),.v (.int (s:Int)),.v (.int (e:Int))],.d (.bl (decide ((s,s+1+t)∈l)&&decide ((s+1+t,e)∈l))),[.v (.int ((s+1+t:Nat):Int)),.v (DT l),.v (.int (s:Int)),.v (.int (e:Int))],[.v (.int ((s+1+t:Nat):Int)),.v (DT l),.v (.int (s:Int)),.v (.int (e:Int))],rfl,rfl,?_,rfl,rfl⟩;refine andV_ev (c:=decide ((s,s+1+t)∈l)) (rL (tup_ev rfl rfl (by simp)) rfl rfl rfl (din_ev (a:=s) (b:=s+1+t))) rfl (fun q=>?_) (fun q=>⟨by rw[q];rfl,rfl⟩)
  rw[q,Bool.true_and];exact rL (tup_ev rfl rfl (by simp)) rfl rfl rfl (din_ev (a:=s+1+t) (b:=e))
 have r:=rng2_ev (fa:=rZ (fOp bAdd (fVar 2) (fC (.int 1))) (rZ (fVar 3) fNil)) (st:=[.v (IL ns),.v (DT l),.v (.int (s:Int)),.v (.int (e:Int)),.o (PL f)]) (i:=((s+1:Nat):Int)) (j:=(e:Int)) (rs:=[.d (.int ((s+1:Nat):Int)),.d (.int (e:Int))]) (s1:=[.v (IL ns),.v (DT l),.v (.int (s:Int)),.v (.int (e:Int)),.o (PL f)]) rfl rfl ⟨by omega,by omega,by omega,by omega⟩
 have e1:((e:Int)-((s+1:Nat):Int)).toNat=e-(s+1):=by omega (config:={})
 rw[e1,rng_nat]at r;exact pN (cb_ev (rG (comp_ev r (few2 (n:=1000) (by rw[List.length_map,List.length_range];omega) rfl) cl) rfl) rfl (bAny_map _ _)) rfl
theorem wholes_ev {c:Int} {ns:List Int} (N:Nm c ns) (hc:c<=2000) (hl:ns.length<=100):G_law_wholes [IL ns]=some (PL (W ns),true):=by
 obtain⟨s2,s3,e1,i2,i3⟩:=wholes_one N hc hl;have sl:(S ns).length<=10000:=by
  have:=Sp_len ns ns.length;have:ns.length*ns.length<=100*100:=Nat.mul_le_mul hl hl;unfold S;omega
 obtain⟨sf,el,t2,t3,rfl,_⟩:=forL_list (fg:=gT 2 (gsC (gN 2) (gsC (gN 3) gsN))) (B:=B_law_wholes_3) prD (S ns) (fun gone st=>∃s2 s3,st=[.v (IL ns),.v (DT (S ns)),s2,s3,.o (PL (gone.filter fun p=>!fallsB (S ns) p.1 p.2))]/\s2.isIo=false/\s3.isIo=false)
  (by
   rintro gone p rest st ha ⟨s2,s3,rfl,i2,i3⟩;have hm:=Sp_mem (n:=ns.length) (show p∈S ns by rw[ha];simp)
   have hg:gone.length<=(S ns).length:=by rw[ha,List.length_append];omega
   have hf:=List.length_filter_le (fun p=>!fallsB (S ns) p.1 p.2) gone;refine⟨[.v (IL ns),.v (DT (S ns)),.v (.int (p.1:Int)),.v (.int (p.2:Int)),.o (PL (gone.filter fun p=>!fallsB (S ns) p.1 p.2))],[.v (IL ns),.v (DT (S ns)),.v (.int (p.1:Int)),.v (.int (p.2:Int)),.o (PL ((gone++[p]).filter fun p=>!fallsB (S ns) p.1 p.2))],gT2_ev (t:=s2) (u:=s3) rfl i2 rfl rfl i3 rfl,?_,_,_,rfl,rfl,rfl⟩;rw[List.filter_append,List.filter_cons];have tst:=any_ev (ns:=ns) (l:=S ns) (f:=gone.filter fun p=>!fallsB (S ns) p.1 p.2) (s:=p.1) (e:=p.2) (by omega) (by omega)
   cases q:fallsB (S ns) p.1 p.2 with
   | true =>
    rw[q]at tst;simp only[Bool.not_true,Bool.false_eq_true,if_false,List.filter_nil,List.append_nil];exact if_f (not_ev tst) rfl
   | false =>
    rw[q]at tst;simp only[Bool.not_false,if_true,List.filter_nil];refine if_t (not_ev tst) ?_
    exact drop_ev (m_ev rfl rfl rfl (rG (r:=.d (prD p)) (tup_ev rfl rfl (by simp)) rfl) rfl rfl rfl (app_ev (by rw[List.length_map];omega)) (by simp only[PL,List.map_append,List.map_cons,List.map_nil];rfl)))
  (S ns) [] [.v (IL ns),.v (DT (S ns)),s2,s3,.o (.lst [])] rfl ⟨s2,s3,rfl,i2,i3⟩
 refine body_ev (o:=.rt (.s 4) [.v (IL ns),.v (DT (S ns)),t2,t3,.o (PL (W ns))]) rfl ?_ rfl;refine rM (s:=[.v (IL ns),.o (DT []),.e,.e,.e]) rfl ?_;refine rM e1 ?_;refine rM (s:=[.v (IL ns),.o (DT (S ns)),s2,s3,.o (.lst [])]) rfl ?_;refine rM (for_ev (ds:=(S ns).map prD) (s1:=[.v (IL ns),.v (DT (S ns)),s2,s3,.o (.lst [])]) ?_ el) rfl;show some (((S ns).map fun p=>(([.inl (p.1:Int),.inl (p.2:Int)]:List Key),D.bl true)).map fun kv=>D.tup (kv.1.map keyT),_)=_;rw[List.map_map];rfl
end K43
namespace VF
open PySem L2
open Classical in
theorem neD_same {n:Nat} {ds:List D} (h:∀d∈ds,Pl n d) (hn:n<=39):bNeD (.lst ds) (.lst ds)=some (.bl false,false):=by
 have up:∀(k:Nat) {m:Nat} {d:D},Pl m d->Pl (m+k) d:=fun k=>by
  induction k with
  | zero=>intro m d h;exact h
  | succ k ih=>intro m d h;exact(ih h).up
 have e1:bEqS true (.lst ds) (.lst ds)=none:=rfl;have p:Pl 40 (.lst ds):=.lst fun d hd=>by
  have:=up (39-n) (h d hd);rwa [show n+(39-n)=39 by omega]at this
 cases ds with
 | nil=>unfold bNeD bNe orD;rw[e1];rfl
 | cons x r =>
  have e2:bNeE (.lst (x::r)) (.lst (x::r))=none:=rfl;have e3:bEqP true (.lst (x::r)) (.lst (x::r))=some (.bl false,false):=by
   unfold bEqP;rw[if_pos ⟨p,p⟩];simp
  unfold bNeD bNe orD;rw[e1,e2];exact e3
end VF
namespace K43
open PySem L2 VF VF22
noncomputable def idl (n:Nat):List Int:=(List.range n).map fun t:Nat=>(t:Int)
theorem idl_len (n:Nat):(idl n).length=n:=by unfold idl;rw[List.length_map,List.length_range]
theorem idl_av {n i:Nat} (h:i<n):av (idl n) i=i:=by
 unfold av idl;rw[List.getD_eq_getElem?_getD,List.getElem?_map,List.getElem?_range h];rfl
theorem pl_prn (p:Nat×Nat):Pl 2 (prD p):=.tup fun d hd=>by
 rcases List.mem_cons.mp hd with rfl|hd
 ·exact .int _ _
 ·rw[List.mem_singleton.mp hd];exact .int _ _
theorem ne_PL (l:List (Nat×Nat)):bNeD (PL l) (PL l)=some (.bl false,false):=neD_same (n:=2) (fun d hd=>by obtain⟨p,_,rfl⟩:=List.mem_map.mp hd;exact pl_prn p) (by decide)
theorem ne_IL (l:List Int):bNeD (IL l) (IL l)=some (.bl false,false):=neD_same (n:=1) (fun d hd=>by obtain⟨p,_,rfl⟩:=List.mem_map.mp hd;exact .int _ _) (by decide)
theorem hard_PL (l:List (Nat×Nat)):HardZ (PL l,true):=.inr ⟨rfl,_,rfl,fun d hd=>by
 obtain⟨p,_,rfl⟩:=List.mem_map.mp hd;refine .tup fun d hd=>?_;rcases List.mem_cons.mp hd with rfl|hd
 ·exact .int _
 ·rw[List.mem_singleton.mp hd];exact .int _⟩
structure Bk (m:Int) (n:Nat) (xs:List Int):Prop where
 nm:Nm m xs
 nn:0<=m
 ln:xs.length=n
 en:∃a,xs=a++[m]
theorem put_bk {m last h:Int} {n k:Nat} {ns blk:List Int} (A:Bk m n ns) (B:Bk last k blk) (hh:h∈ns):Bk (m+last) (n+k-1) (putF ns h last blk):=by
 refine⟨put_nm A.nm B.nm B.nn hh,by have:=A.nn;have:=B.nn;omega,?_,?_⟩
 ·have:=putF_len (blk:=blk) (last:=last) (nd_of A.nm.nd) hh;have:=A.ln;have:=B.ln;omega
 ·obtain⟨a,rfl⟩:=A.en;have hm:m∈a++[m]:=List.mem_append_right _ (List.mem_singleton.mpr rfl);have am:ab m=m:=by unfold ab;rw[if_neg (by have:=A.nn;omega)]
  have hle:=A.nm.le h hh;have key:∃z,putO h last blk m=z++[m+last]:=by
   unfold putO;by_cases c:ab h<ab m
   ·rw[if_pos c];refine⟨[],?_⟩;unfold fart;rw[if_neg (by have:=A.nn;omega)];rfl
   ·rw[if_neg c];have e:m=h:=nd_inj A.nm.nd hm hh (by omega)
    subst e;rw[if_neg (fun z:m≠m=>z rfl),if_pos A.nn];obtain⟨b,rfl⟩:=B.en;rw[List.map_append,List.map_singleton];refine⟨b.map (fart · m),?_⟩;congr 2;unfold fart;rw[if_neg (by have:=B.nn;omega)];omega
  obtain⟨z,hz⟩:=key;unfold putF;rw[List.flatMap_append,List.flatMap_singleton,hz,← List.append_assoc];exact⟨_,rfl⟩
theorem put_in_bk {m last i:Int} {n k:Nat} {ns blk:List Int} (A:Bk m n ns) (B:Bk last k blk) (i0:0<=i) (i1:i<n) (hz:n*k<=10000):∃xs,G_law_put_in [IL ns,.int i,IL blk]=some (IL xs,true)/\Bk (m+last) (n+k-1) xs:=by
 obtain⟨j,rfl⟩:=Int.eq_ofNat_of_zero_le i0;have hj:j<ns.length:=by have:=A.ln;omega
 obtain⟨b,hb⟩:=B.en;have hk:b.length+1=k:=by have:=B.ln;rw[hb,List.length_append,List.length_singleton]at this;exact this
 refine⟨_,?_,put_bk A B (List.getElem_mem hj)⟩;subst hb;exact put_ev_in (List.getElem?_eq_getElem hj) (by rw[A.ln,hk];exact hz)
theorem bk2:Bk 1 2 [0,1]:=⟨⟨by decide,by decide⟩,by decide,rfl,[0],rfl⟩
theorem bkA:Bk 3 4 [0,2,1,3]:=⟨⟨by decide,by decide⟩,by decide,rfl,[0,2,1],rfl⟩
theorem bkB:Bk 2 3 [0,-1,2]:=⟨⟨by decide,by decide⟩,by decide,rfl,[0,-1],rfl⟩
theorem bkC:Bk 2 3 [0,1,2]:=⟨⟨by decide,by decide⟩,by decide,rfl,[0,1],rfl⟩
theorem bkD:Bk 4 5 [0,3,2,1,4]:=⟨⟨by decide,by decide⟩,by decide,rfl,[0,3,2,1],rfl⟩
theorem kt1 {δ:D} {m many k:Int} {n:Nat} {ns:List Int} {s4 s5 s6:Sl} (hδ:DlOk δ) (A:Bk m n ns) (n2:2<=n) (hn:n<=100) (i4:s4.isIo=false) (i5:s5.isIo=false) :
  ∃δ' m' n' ns' t4 t5,B_law_knotty_1 [.io δ,.o (IL ns),.v (.int many),.v (.int k),s4,s5,s6]=some (.nx [.io δ',.o (IL ns'),.v (.int many),.v (.int k),t4,t5,s6])/\DlOk δ'/\Bk m' n' ns'/\m'<=m+8/\n'<=n+8/\n<=n'/\t4.isIo=false/\t5.isIo=false:=by
 have inner:∃δ1 inn m4 n4,(sIf (fAndT (fTest (fOp bLt (fVar 2) (fC (.int 5)))) (fTest (fOp bEq (fIO G_law_draw 0 (rZ (fC (.int 3)) fNil)) (fC (.int 0))))) (sSet (fCall G_law_put_in (rZ (fOp bIx (fLst (rZ (fLst (rZ (fC (.int 0)) (rZ (fUn uNeg (fC (.int 1))) (rZ (fC (.int 2)) fNil)))) (rZ (fLst (rZ (fC (.int 0)) (rZ (fC (.int 1)) (rZ (fC (.int 2)) fNil)))) fNil))) (fIO G_law_draw 0 (rZ (fC (.int 2)) fNil))) (rZ (fIO G_law_draw 0 (rZ (fC (.int 3)) fNil)) (rZ (fVar 4) fNil)))) 4) sNext) [.io δ,.o (IL ns),.v (.int many),.v (.int k),.o (IL [0,2,1,3]),s5,s6]=some (.nx [.io δ1,.o (IL ns),.v (.int many),.v (.int k),.o (IL inn),s5,s6])/\DlOk δ1/\Bk m4 n4 inn/\m4<=5/\n4<=6/\1<=n4:=by
  by_cases q1:many<5
  ·obtain⟨d1,δ1,e1,d10,d11,f1⟩:=draw_ok (n:=3) hδ (by decide) (by decide)
   have t1:fTest (fOp bEq (fIO G_law_draw 0 (rZ (fC (.int 3)) fNil)) (fC (.int 0))) [.io δ,.o (IL ns),.v (.int many),.v (.int k),.o (IL [0,2,1,3]),s5,s6]=some (decide (d1=0),[.io δ1,.o (IL ns),.v (.int many),.v (.int k),.o (IL [0,2,1,3]),s5,s6]):=pN (rL (io_ev rfl rfl rfl rfl rfl rfl e1) rfl rfl rfl eqI_ev) rfl;have t0:fTest (fOp bLt (fVar 2) (fC (.int 5))) [.io δ,.o (IL ns),.v (.int many),.v (.int k),.o (IL [0,2,1,3]),s5,s6]=some (true,[.io δ,.o (IL ns),.v (.int many),.v (.int k),.o (IL [0,2,1,3]),s5,s6]):=of_b (b:=decide (many<5)) rfl (decide_eq_true q1);by_cases q2:d1=0
   ·rw[decide_eq_true q2]at t1;obtain⟨d2,δ2,e2,d20,d21,f2⟩:=draw_ok (n:=2) f1 (by decide) (by decide)
    obtain⟨d3,δ3,e3,d30,d31,f3⟩:=draw_ok (n:=3) f2 (by decide) (by decide)
    obtain⟨x,ex,X⟩:∃x,bIx (.lst [IL [0,-1,2],IL [0,1,2]]) (.int d2)=some (IL x,false)/\Bk 2 3 x:=by
     have:d2=0∨d2=1:=by omega
     rcases this with rfl|rfl
     ·exact⟨_,rfl,bkB⟩
     ·exact⟨_,rfl,bkC⟩
    obtain⟨xs,ey,Y⟩:=put_in_bk X bkA d30 (by omega) (by decide)
    refine⟨δ3,xs,_,_,if_t (and_t t0 t1) ?_,f3,Y,by decide,by decide,by decide⟩
    exact set_f (call_ev (rG (rL (lst_ev rfl rfl (by simp)) (io_ev rfl rfl rfl rfl rfl rfl e2) rfl rfl ex) (rG (io_ev rfl rfl rfl rfl rfl rfl e3) rfl)) rfl ey) rfl
   ·rw[decide_eq_false q2]at t1;exact⟨δ1,_,_,_,if_f (and_t t0 t1) rfl,f1,bkA,by decide,by decide,by decide⟩
  ·exact⟨δ,_,_,_,if_f (and_f (of_b (b:=decide (many<5)) (s:=[.io δ,.o (IL ns),.v (.int many),.v (.int k),.o (IL [0,2,1,3]),s5,s6]) rfl (decide_eq_false q1))) rfl,hδ,bkA,by decide,by decide,by decide⟩
 obtain⟨δ1,inn,m4,n4,e1,f1,I,j1,j2,j3⟩:=inner;obtain⟨d2,δ2,e2,d20,d21,f2⟩:=draw_ok (n:=2) f1 (by decide) (by decide)
 obtain⟨pr,e3,P⟩:=put_in_bk (i:=1+d2) bkA I (by omega) (by omega) (by omega)
 obtain⟨zs,e4,Z⟩:=put_in_bk (i:=(n:Int)-1) A P (by omega) (by omega) (by
  have:n*(4+n4-1)<=100*10:=Nat.mul_le_mul hn (by omega)
  omega)
 refine⟨δ2,_,_,zs,.v (IL inn),.v (IL pr),?_,f2,Z,by omega,by omega,by omega,rfl,rfl⟩
 refine rM (s:=[.io δ,.o (IL ns),.v (.int many),.v (.int k),.o (IL [0,2,1,3]),s5,s6]) (set_f (x:=IL [0,2,1,3]) (s:=[.io δ,.o (IL ns),.v (.int many),.v (.int k),s4,s5,s6]) rfl (fPut_ev (t:=s4) rfl i4)) ?_;refine rM (s:=[.io δ1,.o (IL ns),.v (.int many),.v (.int k),.o (IL inn),s5,s6]) e1 ?_;refine rM (s:=[.io δ2,.o (IL ns),.v (.int many),.v (.int k),.v (IL inn),.o (IL pr),s6]) (set_f (call_ev (rG rfl (rG (rL rfl (io_ev rfl rfl rfl rfl rfl rfl e2) rfl rfl rfl) rfl)) rfl e3) (fPut_ev (t:=s5) rfl i5)) ?_;exact set_f (call_ev (rG rfl (rG (rL (cb_ev rfl rfl (len_IL ns)) rfl rfl rfl (z:=(.int ((n:Int)-1),false)) (by show some (D.int ((ns.length:Int)-1),false)=_;rw[A.ln])) rfl)) rfl e4) rfl
theorem kt2 {δ:D} {m k:Int} {n:Nat} {ns:List Int} {s2 s4 s5 s6:Sl} (hδ:DlOk δ) (A:Bk m n ns) (n2:2<=n) (hn:n<=100) (i6:s6.isIo=false) :
  ∃δ' m' n' ns' t6,B_law_knotty_2 [.io δ,.o (IL ns),s2,.v (.int k),s4,s5,s6]=some (.nx [.io δ',.o (IL ns'),s2,.v (.int k),s4,s5,t6])/\DlOk δ'/\Bk m' n' ns'/\m'<=m+4/\n'<=n+4/\n<=n'/\t6.isIo=false:=by
 obtain⟨d1,δ1,e1,d10,d11,f1⟩:=draw_ok (n:=5) hδ (by decide) (by decide)
 obtain⟨d2,δ2,e2,d20,d21,f2⟩:=draw_ok (n:=(ns.length:Int)) f1 (by have:=A.ln;omega) (by have:=A.ln;omega)
 obtain⟨x,bm,bn,ex,X,x1,x2,x3⟩:∃x bm bn,bIx (.lst [IL [0,2,1,3],IL [0,2,1,3],IL [0,2,1,3],IL [0,-1,2],IL [0,3,2,1,4]]) (.int d1)=some (IL x,false)/\Bk bm bn x/\bm<=4/\bn<=5/\1<=bn:=by
  have:d1=0∨d1=1∨d1=2∨d1=3∨d1=4:=by omega
  rcases this with rfl|rfl|rfl|rfl|rfl
  ·exact⟨_,_,_,rfl,bkA,by decide,by decide,by decide⟩
  ·exact⟨_,_,_,rfl,bkA,by decide,by decide,by decide⟩
  ·exact⟨_,_,_,rfl,bkA,by decide,by decide,by decide⟩
  ·exact⟨_,_,_,rfl,bkB,by decide,by decide,by decide⟩
  ·exact⟨_,_,_,rfl,bkD,by decide,by decide,by decide⟩
 obtain⟨zs,e4,Z⟩:=put_in_bk (i:=d2) A X d20 (by have:=A.ln;omega) (by
  have:n*bn<=100*5:=Nat.mul_le_mul hn x2
  omega)
 refine⟨δ2,_,_,zs,.v (IL x),?_,f2,Z,by omega,by omega,by omega,rfl⟩
 refine rM (s:=[.io δ1,.o (IL ns),s2,.v (.int k),s4,s5,.v (IL x)]) (set_d (rL (lst_ev rfl rfl (by simp)) (io_ev rfl rfl rfl rfl rfl rfl e1) rfl rfl ex) (fPut_ev (t:=s6) rfl i6)) ?_
 exact set_f (call_ev (rG rfl (rG (io_ev rfl rfl (rG (cb_ev rfl rfl (len_IL ns)) rfl) rfl rfl rfl e2) rfl)) rfl e4) rfl
theorem kt3 {δ:D} {m:Int} {n:Nat} {ns:List Int} {s2 s3 s4 s5 s6:Sl} (hδ:DlOk δ) (A:Bk m n ns) (n2:2<=n) (hn:n<=100) (i6:s6.isIo=false) :
  ∃δ' m' n' ns' t6,(sIf (fTest (fOp bEq (fIO G_law_draw 0 (rZ (fC (.int 3)) fNil)) (fC (.int 0)))) (sSeq (sSet (fOp bIx (fLst (rZ (fLst (rZ (fC (.int 0)) (rZ (fUn uNeg (fC (.int 1))) (rZ (fC (.int 2)) fNil)))) (rZ (fLst (rZ (fC (.int 0)) (rZ (fC (.int 2)) (rZ (fC (.int 1)) (rZ (fC (.int 3)) fNil))))) (rZ (fLst (rZ (fC (.int 0)) (rZ (fC (.int 1)) (rZ (fC (.int 2)) fNil)))) fNil)))) (fIO G_law_draw 0 (rZ (fC (.int 3)) fNil))) 6)
  (sSet (fCall G_law_put_in (rZ (fVar 1) (rZ (fIO G_law_draw 0 (rZ (fCB bLen (rZ (fVar 1) fNil)) fNil)) (rZ (fVar 6) fNil)))) 1)) sNext) [.io δ,.o (IL ns),s2,s3,s4,s5,s6]=some (.nx [.io δ',.o (IL ns'),s2,s3,s4,s5,t6])/\DlOk δ'/\Bk m' n' ns'/\m'<=m+4/\n'<=n+4/\n<=n'/\t6.isIo=false:=by
 obtain⟨d0,δ0,e0,d00,d01,f0⟩:=draw_ok (n:=3) hδ (by decide) (by decide)
 have t1:fTest (fOp bEq (fIO G_law_draw 0 (rZ (fC (.int 3)) fNil)) (fC (.int 0))) [.io δ,.o (IL ns),s2,s3,s4,s5,s6]=some (decide (d0=0),[.io δ0,.o (IL ns),s2,s3,s4,s5,s6]):=pN (rL (io_ev rfl rfl rfl rfl rfl rfl e0) rfl rfl rfl eqI_ev) rfl;by_cases q:d0=0
 ·rw[decide_eq_true q]at t1;obtain⟨d1,δ1,e1,d10,d11,f1⟩:=draw_ok (n:=3) f0 (by decide) (by decide)
  obtain⟨d2,δ2,e2,d20,d21,f2⟩:=draw_ok (n:=(ns.length:Int)) f1 (by have:=A.ln;omega) (by have:=A.ln;omega)
  obtain⟨x,bm,bn,ex,X,x1,x2,x3⟩:∃x bm bn,bIx (.lst [IL [0,-1,2],IL [0,2,1,3],IL [0,1,2]]) (.int d1)=some (IL x,false)/\Bk bm bn x/\bm<=4/\bn<=5/\1<=bn:=by
   have:d1=0∨d1=1∨d1=2:=by omega
   rcases this with rfl|rfl|rfl
   ·exact⟨_,_,_,rfl,bkB,by decide,by decide,by decide⟩
   ·exact⟨_,_,_,rfl,bkA,by decide,by decide,by decide⟩
   ·exact⟨_,_,_,rfl,bkC,by decide,by decide,by decide⟩
  obtain⟨zs,e4,Z⟩:=put_in_bk (i:=d2) A X d20 (by have:=A.ln;omega) (by
   have:n*bn<=100*5:=Nat.mul_le_mul hn x2
   omega)
  refine⟨δ2,_,_,zs,.v (IL x),if_t t1 ?_,f2,Z,by omega,by omega,by omega,rfl⟩
  refine rM (s:=[.io δ1,.o (IL ns),s2,s3,s4,s5,.v (IL x)]) (set_d (rL (lst_ev rfl rfl (by simp)) (io_ev rfl rfl rfl rfl rfl rfl e1) rfl rfl ex) (fPut_ev (t:=s6) rfl i6)) ?_
  exact set_f (call_ev (rG rfl (rG (io_ev rfl rfl (rG (cb_ev rfl rfl (len_IL ns)) rfl) rfl rfl rfl e2) rfl)) rfl e4) rfl
 ·rw[decide_eq_false q]at t1;exact⟨δ0,m,n,ns,s6,if_f t1 rfl,f0,A,by omega,by omega,by omega,i6⟩
theorem knotty_ok {δ:D} (hδ:DlOk δ):∃ns δ',G_law_knotty δ []=some ((IL ns,true),δ')/\Nm 100 ns/\2<=ns.length/\ns.length<=60/\DlOk δ':=by
 obtain⟨d0,δ0,e0,d00,d01,f0⟩:=draw_ok (n:=4) hδ (by decide) (by decide)
 have t1:fTest (fOp bEq (fIO G_law_draw 0 (rZ (fC (.int 4)) fNil)) (fC (.int 1))) [.io δ,.o (IL [0,1]),.e,.e,.e,.e,.e]=some (decide (d0=1),[.io δ0,.o (IL [0,1]),.e,.e,.e,.e,.e]):=pN (rL (io_ev rfl rfl rfl rfl rfl rfl e0) rfl rfl rfl eqI_ev) rfl
 have mid:∃δ1 m n ns s2 s3 s4 s5 s6,(sIf (fTest (fOp bEq (fIO G_law_draw 0 (rZ (fC (.int 4)) fNil)) (fC (.int 1)))) (sSeq (sSet (fOp bIx (fLst (rZ (fC (.int 3)) (rZ (fC (.int 3)) (rZ (fC (.int 4)) (rZ (fC (.int 5)) fNil))))) (fIO G_law_draw 0 (rZ (fC (.int 4)) fNil))) 2)
  (sFor (fIR1 (rZ (fVar 2) fNil)) (gN 3) B_law_knotty_1)) (sFor (fIR1 (rZ (fOp bAdd (fC (.int 1)) (fIO G_law_draw 0 (rZ (fC (.int 6)) fNil))) fNil)) (gN 3) B_law_knotty_2)) [.io δ,.o (IL [0,1]),.e,.e,.e,.e,.e]=some (.nx [.io δ1,.o (IL ns),s2,s3,s4,s5,s6])/\DlOk δ1/\Bk m n ns/\m<=41/\n<=42/\2<=n/\s6.isIo=false:=by
  by_cases q:d0=1
  ·rw[decide_eq_true q]at t1;obtain⟨d1,δ1,e1,d10,d11,f1⟩:=draw_ok (n:=4) f0 (by decide) (by decide)
   obtain⟨x,ex,x0,x1⟩:∃x:Nat,bIx (.lst [.int 3,.int 3,.int 4,.int 5]) (.int d1)=some (.int (x:Int),false)/\3<=x/\x<=5:=by
    have:d1=0∨d1=1∨d1=2∨d1=3:=by omega
    rcases this with rfl|rfl|rfl|rfl
    ·exact⟨3,rfl,by decide,by decide⟩
    ·exact⟨3,rfl,by decide,by decide⟩
    ·exact⟨4,rfl,by decide,by decide⟩
    ·exact⟨5,rfl,by decide,by decide⟩
   obtain⟨sf,el,δ4,m,n,ns,s3,s4,s5,rfl,f4,A4,l4,l5,l6,_⟩:=forL_list (fg:=gN 3) (B:=B_law_knotty_1) (fun t:Nat=>D.int (0+(t:Int))) (List.range x) (fun gone st=>∃δ' m n ns s3 s4 s5,st=[.io δ',.o (IL ns),.v (.int (x:Int)),s3,s4,s5,.e]/\DlOk δ'/\Bk m n ns/\m<=1+8*(gone.length:Int)/\n<=2+8*gone.length/\2<=n/\s3.isIo=false/\s4.isIo=false/\s5.isIo=false)
    (by
     rintro gone t rest st ha ⟨δ',m,n,ns,s3,s4,s5,rfl,hf,A,l4,l5,l6,i3,i4,i5⟩;have hx:=congrArg List.length ha;rw[List.length_range,List.length_append,List.length_cons]at hx;obtain⟨δ5,m',n',ns',t4,t5,eb,g1,g2,g3,g4,g5,g6,g7⟩:=kt1 (many:=(x:Int)) (k:=0+(t:Int)) (s6:=.e) hf A l6 (by omega) i4 i5
     exact⟨_,_,gN_ev (t:=s3) rfl i3,eb,δ5,m',n',ns',.v (.int (0+(t:Int))),t4,t5,rfl,g1,g2,by rw[List.length_append,List.length_singleton];omega,by rw[List.length_append,List.length_singleton];omega,by omega,rfl,g6,g7⟩)
    (List.range x) [] [.io δ1,.o (IL [0,1]),.v (.int (x:Int)),.e,.e,.e,.e] rfl ⟨δ1,1,2,[0,1],.e,.e,.e,rfl,f1,bk2,by decide,by decide,by decide,rfl,rfl,rfl⟩
   rw[List.length_range]at l4 l5;refine⟨δ4,m,n,ns,.v (.int (x:Int)),s3,s4,s5,.e,if_t t1 ?_,f4,A4,by omega,by omega,l6,rfl⟩
   refine rM (s:=[.io δ1,.o (IL [0,1]),.v (.int (x:Int)),.e,.e,.e,.e]) (set_d (rL (lst_ev rfl rfl (by simp)) (io_ev rfl rfl rfl rfl rfl rfl e1) rfl rfl ex) rfl) ?_
   exact for_ev (rng1_ev (j:=(x:Int)) rfl rfl ⟨by omega,by omega (config:={})⟩) el
  ·rw[decide_eq_false q]at t1;obtain⟨d1,δ1,e1,d10,d11,f1⟩:=draw_ok (n:=6) f0 (by decide) (by decide)
   obtain⟨r,rfl⟩:=Int.eq_ofNat_of_zero_le d10;obtain⟨sf,el,δ4,m,n,ns,s3,s6,rfl,f4,A4,l4,l5,l6,_,i6⟩:=forL_list (fg:=gN 3) (B:=B_law_knotty_2) (fun t:Nat=>D.int (0+(t:Int))) (List.range (r+1)) (fun gone st=>∃δ' m n ns s3 s6,st=[.io δ',.o (IL ns),.e,s3,.e,.e,s6]/\DlOk δ'/\Bk m n ns/\m<=1+4*(gone.length:Int)/\n<=2+4*gone.length/\2<=n/\s3.isIo=false/\s6.isIo=false)
    (by
     rintro gone t rest st ha ⟨δ',m,n,ns,s3,s6,rfl,hf,A,l4,l5,l6,i3,i6⟩;have hx:=congrArg List.length ha;rw[List.length_range,List.length_append,List.length_cons]at hx;obtain⟨δ5,m',n',ns',t6,eb,g1,g2,g3,g4,g5,g6⟩:=kt2 (k:=0+(t:Int)) (s2:=.e) (s4:=.e) (s5:=.e) hf A l6 (by omega) i6
     exact⟨_,_,gN_ev (t:=s3) rfl i3,eb,δ5,m',n',ns',.v (.int (0+(t:Int))),t6,rfl,g1,g2,by rw[List.length_append,List.length_singleton];omega,by rw[List.length_append,List.length_singleton];omega,by omega,rfl,g6⟩)
    (List.range (r+1)) [] [.io δ1,.o (IL [0,1]),.e,.e,.e,.e,.e] rfl ⟨δ1,1,2,[0,1],.e,.e,rfl,f1,bk2,by decide,by decide,by decide,rfl,rfl⟩
   rw[List.length_range]at l4 l5;refine⟨δ4,m,n,ns,.e,s3,.e,.e,s6,if_f t1 ?_,f4,A4,by omega,by omega,l6,i6⟩
   have hr:(1:Int)+(r:Int)=((r+1:Nat):Int):=by omega
   have:=rng1_ev (fa:=rZ (fOp bAdd (fC (.int 1)) (fIO G_law_draw 0 (rZ (fC (.int 6)) fNil))) fNil) (st:=[.io δ0,.o (IL [0,1]),.e,.e,.e,.e,.e]) (j:=((r+1:Nat):Int)) (rs:=[.d (.int ((r+1:Nat):Int))]) (s1:=[.io δ1,.o (IL [0,1]),.e,.e,.e,.e,.e]) (rG (rL rfl (io_ev rfl rfl rfl rfl rfl rfl e1) rfl rfl (z:=(.int ((r+1:Nat):Int),false)) (by rw[← hr];rfl)) rfl) rfl ⟨by omega,by omega (config:={})⟩
   exact for_ev (ds:=(List.range (r+1)).map fun t:Nat=>D.int (0+(t:Int))) (s1:=[.io δ1,.o (IL [0,1]),.e,.e,.e,.e,.e]) this el
 obtain⟨δ1,m,n,ns,s2,s3,s4,s5,s6,e1,f1,A,l1,l2,l3,i6⟩:=mid;obtain⟨δ2,m',n',ns',t6,e2,f2,A',k1,k2,k3,k4⟩:=kt3 (s2:=s2) (s3:=s3) (s4:=s4) (s5:=s5) f1 A l3 (by omega) i6
 refine⟨ns',δ2,?_,A'.nm.up (by omega),by have:=A'.ln;omega,by have:=A'.ln;omega,f2⟩
 refine bodyIO_ev (o:=.rt (.s 1) [.io δ2,.o (IL ns'),s2,s3,s4,s5,t6]) rfl ?_ rfl;refine rM (s:=[.io δ,.o (IL [0,1]),.e,.e,.e,.e,.e]) rfl ?_;exact rM e1 (rM e2 rfl)
noncomputable def wI (q p:Nat×Nat):Bool:=decide (q≠p)&&(decide (p.1<=q.1)&&decide (q.2<=p.2))
noncomputable def pts (p:Nat×Nat):List Nat:=(List.range (p.2-p.1)).map (p.1+·)
theorem pts_mem {p:Nat×Nat} {x:Nat}:x∈pts p↔p.1<=x/\x<p.2:=by
 unfold pts;rw[List.mem_map];constructor
 ·rintro⟨t,ht,rfl⟩;have:=List.mem_range.mp ht;omega
 ·rintro⟨h1,h2⟩;exact⟨x-p.1,List.mem_range.mpr (by omega),by omega⟩
noncomputable abbrev NL (xs:List Nat):D:=.lst (xs.map fun k:Nat=>D.int (k:Int))
noncomputable def tkn (w:List (Nat×Nat)) (p:Nat×Nat) (k:Nat):Bool:=w.any fun q=>wI q p&&(decide (q.1<=k)&&decide (k<q.2))
noncomputable def ow (w:List (Nat×Nat)) (p:Nat×Nat):List Nat:=(pts p).filter fun k=>!tkn w p k
noncomputable def DK (l:List Nat):D:=.dk (l.map fun k:Nat=>(.inl (k:Int),.bl true))
open Classical in
theorem neD_pr (q p:Nat×Nat):bNeD (prD q) (prD p)=some (.bl (decide (q≠p)),false):=by
 have e1:bEqS true (prD q) (prD p)=none:=rfl;have e2:bNeE (prD q) (prD p)=none:=rfl;have inj:prD q=prD p↔q=p:=by
  constructor
  ·intro z;injection z with z;injection z with z1 z2;injection z2 with z2 z3;injection z1 with z1;injection z2 with z2;exact Prod.ext (by omega) (by omega)
  ·rintro rfl;rfl
 unfold bNeD bNe orD;rw[e1,e2];show bEqP true (prD q) (prD p)=_;unfold bEqP;rw[if_pos ⟨pl_pr q,pl_pr p⟩];simp only[if_true];congr 3;by_cases h:q=p
 ·rw[decide_eq_true (inj.mpr h),decide_eq_false (fun z=>z h)];rfl
 ·rw[decide_eq_false (fun z=>h (inj.mp z)),decide_eq_true h];rfl
theorem ix0_pr (p:Nat×Nat):bIx (prD p) (.int 0)=some (.int (p.1:Int),false):=ixT_nat (i:=0) rfl
theorem ix1_pr (p:Nat×Nat):bIx (prD p) (.int 1)=some (.int (p.2:Int),false):=ixT_nat (i:=1) rfl
theorem le_ev {i j:Nat}:bLe (.int (i:Int)) (.int (j:Int))=some (.bl (decide (i<=j)),false):=by
 show some (D.bl (decide ((i:Int)<=(j:Int))),false)=_;congr 3;exact decide_eq_decide.mpr ⟨fun h=>by omega,fun h=>by omega⟩
theorem lt_evN {i j:Nat}:bLt (.int (i:Int)) (.int (j:Int))=some (.bl (decide (i<j)),false):=by
 show some (D.bl (decide ((i:Int)<(j:Int))),false)=_;congr 3;exact decide_eq_decide.mpr ⟨fun h=>by omega,fun h=>by omega⟩
theorem within_ev (q p:Nat×Nat):G_within [prD q,prD p]=some (.bl (wI q p),false):=by
 refine body_ev (o:=.rt (.d (.bl (wI q p))) [.v (prD q),.v (prD p)]) rfl (ret_ev ?_) rfl;unfold wI;refine andV_ev (c:=decide (q≠p)) (s:=[.v (prD q),.v (prD p)]) (rL rfl rfl rfl rfl (neD_pr q p)) rfl (fun z=>?_) (fun z=>⟨by rw[z];rfl,rfl⟩)
 rw[z,Bool.true_and];refine andV_ev (c:=decide (p.1<=q.1)) (s:=[.v (prD q),.v (prD p)]) (rL (rL rfl rfl rfl rfl (ix0_pr p)) (rL rfl rfl rfl rfl (ix0_pr q)) rfl rfl le_ev) rfl (fun z=>?_) (fun z=>⟨by rw[z];rfl,rfl⟩)
 rw[z,Bool.true_and];exact rL (rL rfl rfl rfl rfl (ix1_pr q)) (rL rfl rfl rfl rfl (ix1_pr p)) rfl rfl le_ev
theorem points_ev {p:Nat×Nat} (h1:p.1<=1000) (h2:p.2<=1000):G_points_in [prD p]=some (NL (pts p),true):=by
 refine body_ev (o:=.rt (.f (NL (pts p))) [.v (prD p)]) rfl (ret_ev ?_) rfl;have r:=lr2_ev (fa:=rZ (fOp bIx (fVar 0) (fC (.int 0))) (rZ (fOp bIx (fVar 0) (fC (.int 1))) fNil)) (st:=[.v (prD p)]) (s:=[.v (prD p)]) (i:=(p.1:Int)) (j:=(p.2:Int)) (rs:=[.d (.int (p.1:Int)),.d (.int (p.2:Int))]) (rG (rL rfl rfl rfl rfl (ix0_pr p)) (rG (rL rfl rfl rfl rfl (ix1_pr p)) rfl)) rfl ⟨by omega,by omega,by omega,by omega,by omega⟩
 have e:((p.2:Int)-(p.1:Int)).toNat=p.2-p.1:=by omega (config:={})
 rw[e,rng_nat]at r;refine r.trans ?_;unfold NL pts;rw[List.map_map];rfl
noncomputable def insK (l:List Nat) (k:Nat):List Nat:=if k∈l then l else l++[k]
theorem insK_mem {l:List Nat} {k x:Nat}:x∈insK l k↔x∈l∨x=k:=by
 unfold insK;by_cases h:k∈l
 ·rw[if_pos h];exact⟨.inl,fun z=>z.elim id fun e=>e ▸ h⟩
 ·rw[if_neg h,List.mem_append,List.mem_singleton]
theorem insK_nd {l:List Nat} {k:Nat} (h:l.Nodup):(insK l k).Nodup:=by
 unfold insK;by_cases c:k∈l
 ·rw[if_pos c];exact h
 ·rw[if_neg c];exact List.nodup_append.mpr ⟨h,by simp,fun a ha b hb e=>c (by rw[← List.mem_singleton.mp hb,← e];exact ha)⟩
theorem few_nd {l:List Nat} {n:Nat} (h:l.Nodup) (hb:∀x∈l,x<n):l.length<=n:=by
 have:=nodup_le l (List.range n) h fun x hx=>List.mem_range.mpr (hb x hx);rwa [List.length_range]at this
theorem keyK_eq {a b:Nat}:(Sum.inl (a:Int):Key)=.inl (b:Int)↔a=b:=⟨fun z=>by injection z with z;omega,fun z=>by rw[z]⟩
theorem lookK {l:List Nat} {k:Nat}:(lookG (l.map fun k:Nat=>((.inl (k:Int):Key),D.bl true)) (.inl (k:Int))).isSome=decide (k∈l):=by
 induction l with
 | nil=>rfl
 | cons x r ih =>
  unfold lookG at ih ⊢;rw[List.map_cons,List.find?_cons];by_cases e:x=k
  ·subst e;simp
  ·have:decide ((Sum.inl (x:Int):Key)=.inl (k:Int))=false:=decide_eq_false fun z=>e (keyK_eq.mp z);simp only[this];rw[ih];have e':¬ k=x:=fun z=>e z.symm;simp[e']
theorem kin_ev {l:List Nat} {k:Nat}:bDIn true (.int (k:Int)) (DK l)=some (.bl (!decide (k∈l)),false):=by
 rw[← lookK];rfl
theorem kput_ev {l:List Nat} {k:Nat} (hl:l.length<100000):bSetD (DK l) (.int (k:Int)) (.bl true)=some (DK (insK l k)):=by
 show(if (l.map fun k:Nat=>((.inl (k:Int):Key),D.bl true)).length<100000 then some (D.dk (putG (l.map fun k:Nat=>((.inl (k:Int):Key),D.bl true)) (.inl (k:Int)) (.bl true))) else none)=_;rw[if_pos (by rw[List.length_map];exact hl)]
 unfold putG DK insK;by_cases h:k∈l
 ·have ha:((l.map fun k:Nat=>((.inl (k:Int):Key),D.bl true)).any fun kv=>decide (kv.1=.inl (k:Int)))=true:=List.any_eq_true.mpr ⟨(.inl (k:Int),.bl true),List.mem_map.mpr ⟨k,h,rfl⟩,decide_eq_true rfl⟩;rw[if_pos h,if_pos ha,List.map_map];congr 2;refine List.map_congr_left fun x _=>?_;show(if (Sum.inl (x:Int):Key)=.inl (k:Int) then((.inl (x:Int):Key),D.bl true) else((.inl (x:Int):Key),D.bl true))=_;split<;>rfl
 ·rw[if_neg h,if_neg,List.map_append]
  ·rfl
  ·rw[List.any_eq_true];rintro⟨x,hx,hk⟩;obtain⟨y,hy,rfl⟩:=List.mem_map.mp hx;exact h (keyK_eq.mp (of_decide_eq_true hk) ▸ hy)
theorem own_of_ev {w:List (Nat×Nat)} {p:Nat×Nat} (hw:∀q∈w,q.1<q.2/\q.2<=100) (hp:p.1<p.2/\p.2<=100):G_own_of [prD p,PL w]=some (NL (ow w p),true):=by
 obtain⟨sf,el,l,s3,s4,rfl,nd,mem,_⟩:=forL_list (fg:=gN 3) (B:=B_own_of_2) prD w (fun gone st=>∃l s3 s4,st=[.v (prD p),.v (PL w),.o (DK l),s3,s4]/\l.Nodup/\(∀x,x∈l↔∃q∈gone,wI q p=true/\q.1<=x/\x<q.2)/\s3.isIo=false/\s4.isIo=false)
  (by
   rintro gone q rest st ha ⟨l,s3,s4,rfl,nd,mem,i3,i4⟩;have hq:q∈w:=by rw[ha];exact List.mem_append_right _ List.mem_cons_self
   have hb:∀g:List (Nat×Nat),(∀q∈g,q∈w)->∀x,(∃q∈g,wI q p=true/\q.1<=x/\x<q.2)->x<100:=fun g hg x ⟨q,h1,_,_,h3⟩=>by have:=hw q (hg q h1);omega
   have hgone:∀q∈gone,q∈w:=fun q h=>by rw[ha];exact List.mem_append_left _ h
   have tst:fTest (fCallS G_within (rZ (fVar 3) (rZ (fVar 0) fNil))) [.v (prD p),.v (PL w),.o (DK l),.v (prD q),s4]=some (wI q p,[.v (prD p),.v (PL w),.o (DK l),.v (prD q),s4]):=pN (callS_ev rfl rfl (within_ev q p) rfl) rfl;by_cases c:wI q p=true
   ·rw[c]at tst;obtain⟨sf,el,l2,t4,rfl,nd2,mem2,i4'⟩:=forL_list (fg:=gN 4) (B:=B_own_of_1) (fun k:Nat=>D.int (k:Int)) (pts q) (fun gn st=>∃l' s4,st=[.v (prD p),.v (PL w),.o (DK l'),.v (prD q),s4]/\l'.Nodup/\(∀x,x∈l'↔x∈l∨x∈gn)/\s4.isIo=false)
     (by
      rintro gn k rs st hk ⟨l',s4,rfl,nd,mem',i4⟩;have hl:l'.length<=100:=few_nd nd fun x hx=>by
       rcases(mem' x).mp hx with z|z
       ·exact hb gone hgone x ((mem x).mp z)
       ·have h1:x∈pts q:=by rw[hk];exact List.mem_append_left _ z
        have:=pts_mem.mp h1;have:=hw q hq;omega
      refine⟨_,_,gN_ev (t:=s4) rfl i4,put_ev rfl rfl rfl rfl rfl rfl rfl rfl (kput_ev (by omega)),insK l' k,.v (.int (k:Int)),rfl,insK_nd nd,fun x=>?_,rfl⟩
      rw[insK_mem,mem' x,List.mem_append,List.mem_singleton]
      exact⟨fun z=>z.elim (fun z=>z.elim .inl fun z=>.inr (.inl z)) fun z=>.inr (.inr z),fun z=>z.elim (fun z=>.inl (.inl z)) fun z=>z.elim (fun z=>.inl (.inr z)) .inr⟩)
     (pts q) [] [.v (prD p),.v (PL w),.o (DK l),.v (prD q),s4] rfl ⟨l,s4,rfl,nd,fun x=>by simp,i4⟩
    have hq2:=hw q hq;refine⟨[.v (prD p),.v (PL w),.o (DK l),.v (prD q),s4],_,gN_ev (t:=s3) rfl i3,if_t tst (for_ev (il_ev (call_ev rfl rfl (points_ev (by omega) (by omega))) rfl) el),l2,.v (prD q),t4,rfl,nd2,fun x=>?_,rfl,i4'⟩
    rw[mem2 x,mem x,pts_mem];constructor
    ·rintro(⟨r,h1,h2⟩|h)
     ·exact⟨r,List.mem_append_left _ h1,h2⟩
     ·exact⟨q,List.mem_append_right _ (List.mem_singleton.mpr rfl),c,h⟩
    ·rintro⟨r,h1,h2⟩;rcases List.mem_append.mp h1 with h1|h1
     ·exact .inl ⟨r,h1,h2⟩
     ·rw[List.mem_singleton.mp h1]at h2;exact .inr h2.2
   ·rw[Bool.not_eq_true]at c;rw[c]at tst;refine⟨[.v (prD p),.v (PL w),.o (DK l),.v (prD q),s4],_,gN_ev (t:=s3) rfl i3,if_f tst rfl,l,.v (prD q),s4,rfl,nd,fun x=>?_,rfl,i4⟩;rw[mem x];constructor
    ·rintro⟨r,h1,h2⟩;exact⟨r,List.mem_append_left _ h1,h2⟩
    ·rintro⟨r,h1,h2⟩;rcases List.mem_append.mp h1 with h1|h1
     ·exact⟨r,h1,h2⟩
     ·rw[List.mem_singleton.mp h1,c]at h2;cases h2.1)
  w [] [.v (prD p),.v (PL w),.o (DK []),.e,.e] rfl ⟨[],.e,.e,rfl,by simp,fun x=>by simp,rfl,rfl⟩
 have tk:∀k,decide (k∈l)=tkn w p k:=fun k=>by
  unfold tkn;rw[Bool.eq_iff_iff,decide_eq_true_iff,List.any_eq_true,mem k];simp only[Bool.and_eq_true,decide_eq_true_iff]
 have cl:=compL_list (fg:=gN 0) (fc:=C_own_of_1) (fe:=E_own_of_1) (k:=1) (fun k:Nat=>D.int (k:Int)) (fun k:Nat=>D.int (k:Int)) (fun k=>!tkn w p k) [.e,.o (DK l)] (pts p) fun k hk=>by
  refine⟨[.v (.int (k:Int)),.o (DK l)],[.v (.int (k:Int)),.o (DK l)],rfl,?_,fun _=>rfl,fun _=>⟨.d (.int (k:Int)),[.v (.int (k:Int)),.o (DK l)],[.v (.int (k:Int)),.o (DK l)],rfl,rfl,rfl⟩⟩;rw[← tk k];exact pN (rL rfl rfl rfl rfl kin_ev) rfl
 refine body_ev (o:=.rt (.f (NL (ow w p))) [.v (prD p),.v (PL w),.o (DK l),s3,s4]) rfl ?_ rfl;refine rM (s:=[.v (prD p),.v (PL w),.o (DK []),.e,.e]) rfl ?_;refine rM (for_ev (il_ev rfl rfl) el) ?_;exact ret_ev (comp_ev (il_ev (call_ev rfl rfl (points_ev (by omega) (by omega))) rfl) (few2 (n:=1000) (by rw[List.length_map];unfold pts;rw[List.length_map,List.length_range];omega) rfl) cl)
noncomputable def DF (f:Nat×Nat->D) (l:List (Nat×Nat)):D:=.dt (l.map fun p=>([.inl (p.1:Int),.inl (p.2:Int)],f p))
theorem keyP_eq {p q:Nat×Nat}:(([.inl (p.1:Int),.inl (p.2:Int)]:List Key)=[.inl (q.1:Int),.inl (q.2:Int)])↔p=q:=by
 constructor
 ·intro z;have h1:(p.1:Int)=q.1:=by injection z with z1 z2;injection z1
  have h2:(p.2:Int)=q.2:=by injection z with z1 z2;injection z2 with z3 z4;injection z3
  exact Prod.ext (by omega) (by omega)
 ·rintro rfl;rfl
theorem dputF {f:Nat×Nat->D} {l:List (Nat×Nat)} {p:Nat×Nat} (h:p∉l) (hl:l.length<100000):bSetD (DF f l) (prD p) (f p)=some (DF f (l++[p])):=by
 show(if (l.map fun p=>(([.inl (p.1:Int),.inl (p.2:Int)]:List Key),f p)).length<100000 then some (D.dt (putG (l.map fun p=>(([.inl (p.1:Int),.inl (p.2:Int)]:List Key),f p)) [.inl (p.1:Int),.inl (p.2:Int)] (f p))) else none)=_;rw[if_pos (by rw[List.length_map];exact hl)]
 unfold putG DF;rw[if_neg,List.map_append]
 ·rfl
 ·rw[List.any_eq_true];rintro⟨x,hx,hk⟩;obtain⟨q,hq,rfl⟩:=List.mem_map.mp hx;exact h (keyP_eq.mp (of_decide_eq_true hk) ▸ hq)
theorem dgetF {f:Nat×Nat->D} {l:List (Nat×Nat)} {p:Nat×Nat} (h:p∈l):bDGet (DF f l) (prD p)=some (f p,false):=by
 have e:lookG (l.map fun p=>(([.inl (p.1:Int),.inl (p.2:Int)]:List Key),f p)) [.inl (p.1:Int),.inl (p.2:Int)]=some (f p):=by
  induction l with
  | nil=>cases h
  | cons q r ih =>
   unfold lookG at ih ⊢;rw[List.map_cons,List.find?_cons];by_cases e:q=p
   ·subst e;simp
   ·have:decide (([.inl (q.1:Int),.inl (q.2:Int)]:List Key)=[.inl (p.1:Int),.inl (p.2:Int)])=false:=decide_eq_false fun z=>e (keyP_eq.mp z);simp only[this];exact ih ((List.mem_cons.mp h).resolve_left fun z=>e z.symm)
 show((some (lookG (l.map fun p=>(([.inl (p.1:Int),.inl (p.2:Int)]:List Key),f p)) [.inl (p.1:Int),.inl (p.2:Int)])).bind fun o=>o.bind fun d=>some (d,false))=_;rw[e];rfl
theorem sortF {f:Nat×Nat->D} {l:List (Nat×Nat)} (h:l.Pairwise lex):bSortT [DF f l]=some (PL l,true):=by
 have e:keysOfD (DF f l)=some (l.map prD):=by
  show some ((l.map fun p=>(([.inl (p.1:Int),.inl (p.2:Int)]:List Key),f p)).map fun kv=>D.tup (kv.1.map keyT))=_;rw[List.map_map];rfl
 have e0:keysOfD (DT l)=some (l.map prD):=by
  show some ((l.map fun p=>(([.inl (p.1:Int),.inl (p.2:Int)]:List Key),D.bl true)).map fun kv=>D.tup (kv.1.map keyT))=_;rw[List.map_map];rfl
 have:=sortT_ev h;unfold bSortT at this ⊢;simp only[e0]at this;simp only[e];exact this
theorem W_mem {ns:List Int} {p:Nat×Nat} (h:p∈W ns):p.1<p.2/\p.2<ns.length:=by
 have:=Sp_mem (List.mem_filter.mp h).1;omega
theorem W_lex (ns:List Int):(W ns).Pairwise lex:=List.Pairwise.sublist (List.filter_sublist) (Sp_lex ns _)
theorem W_nd (ns:List Int):(W ns).Nodup:=List.Pairwise.imp lex_ne (W_lex ns)
theorem W_len {ns:List Int} (hl:ns.length<=100):(W ns).length<=10000:=by
 have:=Sp_len ns ns.length;have:ns.length*ns.length<=100*100:=Nat.mul_le_mul hl hl;have:=List.length_filter_le (fun p=>!fallsB (S ns) p.1 p.2) (S ns);unfold W;unfold S at *;omega
noncomputable def owD (ns:List Int) (p:Nat×Nat):D:=NL (ow (W ns) p)
theorem own_points_ev {ns:List Int} (hl:ns.length<=100):G_own_points [IL ns]=some (DF (owD ns) (W ns),true):=by
 obtain⟨sf,el,s3,rfl,_⟩:=forL_list (fg:=gN 3) (B:=B_own_points_1) prD (W ns) (fun gone st=>∃s3,st=[.v (IL ns),.v (PL (W ns)),.o (DF (owD ns) gone),s3]/\s3.isIo=false)
  (by
   rintro gone p rest st ha ⟨s3,rfl,i3⟩;have hp:p∈W ns:=by rw[ha];exact List.mem_append_right _ List.mem_cons_self
   have nd:=W_nd ns;rw[ha]at nd;have ln:=W_len hl;rw[ha,List.length_append,List.length_cons]at ln;have oe:=own_of_ev (w:=W ns) (p:=p) (fun q hq=>by have:=W_mem hq;omega) (by have:=W_mem hp;omega)
   have ce:fCall G_own_of (rZ (fVar 3) (rZ (fVar 1) fNil)) [.v (IL ns),.v (PL (W ns)),.o (DF (owD ns) gone),.v (prD p)]=some (.f (owD ns p),[.v (IL ns),.v (PL (W ns)),.o (DF (owD ns) gone),.v (prD p)]):=call_ev rfl rfl oe
   exact⟨[.v (IL ns),.v (PL (W ns)),.o (DF (owD ns) gone),.v (prD p)],_,gN_ev (t:=s3) rfl i3,put_ev ce rfl rfl rfl rfl rfl rfl rfl (dputF (f:=owD ns) (fun z=>(List.nodup_append.mp nd).2.2 p z p List.mem_cons_self rfl) (by omega)),.v (prD p),rfl,rfl⟩)
  (W ns) [] [.v (IL ns),.v (PL (W ns)),.o (DF (owD ns) []),.e] rfl ⟨.e,rfl,rfl⟩
 refine body_ev (o:=.rt (.s 2) [.v (IL ns),.v (PL (W ns)),.o (DF (owD ns) (W ns)),s3]) rfl ?_ rfl;refine rM (s:=[.v (IL ns),.o (PL (W ns)),.e,.e]) (set_f (call_ev rfl rfl (whole_ev hl)) rfl) ?_;refine rM (s:=[.v (IL ns),.o (PL (W ns)),.o (DF (owD ns) []),.e]) rfl ?_;exact rM (for_ev (il_ev rfl rfl) el) rfl
noncomputable def rest (ns:List Int) (k:Nat):Bool:=decide (av ns (k+1)=av ns k+1)
noncomputable def neg (ns:List Int) (k:Nat):Bool:=decide (av ns k<0)
noncomputable def sd (ns:List Int) (own:List Nat):List Bool:=own.flatMap fun k=>[neg ns k,neg ns (k+1)]
noncomputable def knB (ns:List Int) (own:List Nat):Bool:=(!own.all (rest ns))&&((sd ns own).all id||!(sd ns own).any id)
theorem ixS {ns:List Int} {k:Nat} (h:k+1<ns.length):bIx (IL ns) (.int ((k:Int)+1))=some (.int (av ns (k+1)),false):=by
 have:=ix_nat (av_at (ns:=ns) (i:=k+1) h);rwa [Int.natCast_add]at this
theorem rest_ev {ns:List Int} {k:Nat} (h:k+1<ns.length):G_is_at_rest [IL ns,.int (k:Int)]=some (.bl (rest ns k),false) :=
 body_ev (o:=.rt (.d (.bl (rest ns k))) [.v (IL ns),.v (.int (k:Int))]) rfl (ret_ev (rL (rL rfl (rL rfl rfl rfl rfl rfl) rfl rfl (ixS h)) (rL (rL rfl rfl rfl rfl (ix_nat (av_at (ns:=ns) (i:=k) (by omega)))) rfl rfl rfl rfl) rfl rfl eqDI_ev)) rfl
theorem bAll_map {α:Type} (f:α->Bool) (l:List α):bAll [.lst (l.map fun x=>D.bl (f x))]=some (.bl (l.all f),false):=by
 show(asBls (l.map fun x=>D.bl (f x))).bind (fun bs=>some (D.bl (bs.all id),false))=_;rw[asBls_map];show some (D.bl ((l.map f).all id),false)=_;rw[List.all_map];rfl
theorem notV_ev {fa:FE} {st s:En} {r:Rs} {c:Bool} (h:fa st=some (r,s)) (h1:tru s r=some c):fNotV fa st=some (.d (.bl (!c)),s):=by
 simp only[fNotV,h,h1,Option.bind_some]
theorem orV_ev {fa fb:FE} {st s:En} {r:Rs} {c d:Bool} (h:fa st=some (r,s)) (h1:tru s r=some c) (h2:fb s=some (.d (.bl d),s)):fOrV fa fb st=some (.d (.bl (c||d)),s):=by
 cases c with
 | true=>simp only[fOrV,h,h1,Option.bind_some,if_true,Bool.true_or]
 | false=>simp only[fOrV,h,h1,Option.bind_some,Bool.false_eq_true,if_false,h2,Bool.false_or]
theorem one_sided_ev {ns:List Int} {own:List Nat} (h:∀k∈own,k+1<ns.length) (hl:own.length<=1000):G_one_sided [IL ns,NL own]=some (.bl ((sd ns own).all id||!(sd ns own).any id),false):=by
 obtain⟨sf,el,s3,rfl,_⟩:=forL_list (fg:=gN 3) (B:=B_one_sided_1) (fun k:Nat=>D.int (k:Int)) own (fun gone st=>∃s3,st=[.v (IL ns),.v (NL own),.o (.lst ((sd ns gone).map fun x=>D.bl (id x))),s3]/\s3.isIo=false)
  (by
   rintro gone k rest st ha ⟨s3,rfl,i3⟩;have hk:=h k (by rw[ha];exact List.mem_append_right _ List.mem_cons_self)
   have ln:=congrArg List.length ha;rw[List.length_append,List.length_cons]at ln;have sl:(sd ns gone).length<=gone.length*2:=flat_len gone _ 2 fun x _=>by simp
   refine⟨_,_,gN_ev (t:=s3) rfl i3,drop_ev (m_ev rfl rfl rfl (rG (lst_ev (rG (rL (rL rfl rfl rfl rfl (ix_nat (av_at (ns:=ns) (i:=k) (by omega)))) rfl rfl rfl rfl) (rG (rL (rL rfl (rL rfl rfl rfl rfl rfl) rfl rfl (ixS hk)) rfl rfl rfl rfl) rfl)) rfl (by simp)) rfl) rfl rfl rfl (extL_ev (by rw[List.length_map];simp only[List.length_cons,List.length_nil];omega))),.v (.int (k:Int)),?_,rfl⟩
   unfold sd
   rw[List.flatMap_append,List.flatMap_singleton,List.map_append];rfl)
  own [] [.v (IL ns),.v (NL own),.o (.lst []),.e] rfl ⟨.e,rfl,rfl⟩
 refine body_ev (o:=.rt (.d (.bl ((sd ns own).all id||!(sd ns own).any id))) [.v (IL ns),.v (NL own),.o (.lst ((sd ns own).map fun x=>D.bl (id x))),s3]) rfl ?_ rfl;refine rM (s:=[.v (IL ns),.v (NL own),.o (.lst []),.e]) rfl ?_;refine rM (for_ev (il_ev rfl rfl) el) ?_;exact ret_ev (orV_ev (cb_ev rfl rfl (bAll_map id (sd ns own))) rfl (notV_ev (cb_ev rfl rfl (bAny_map id (sd ns own))) rfl))
theorem is_knot_ev {ns:List Int} {own:List Nat} (h:∀k∈own,k+1<ns.length) (hl:own.length<=1000):G_is_knot [IL ns,NL own]=some (.bl (knB ns own),false):=by
 have cl:=compL_lmap (fg:=gN 0) (fc:=fYes) (fe:=E_is_knot_1) (k:=1) (fun k:Nat=>D.int (k:Int)) (fun k=>D.bl (rest ns k)) [.e,.v (IL ns)] own fun k hk=>⟨[.v (.int (k:Int)),.v (IL ns)],[.v (.int (k:Int)),.v (IL ns)],.d (.bl (rest ns k)),[.v (.int (k:Int)),.v (IL ns)],[.v (.int (k:Int)),.v (IL ns)],rfl,rfl,callS_ev rfl rfl (rest_ev (h k hk)) rfl,rfl,rfl⟩;refine body_ev (o:=.rt (.d (.bl (knB ns own))) [.v (IL ns),.v (NL own)]) rfl (ret_ev ?_) rfl;unfold knB;refine andV_ev (c:=!own.all (rest ns)) (s:=[.v (IL ns),.v (NL own)]) (notV_ev (cb_ev (rG (comp_ev (il_ev rfl rfl) (few2 (n:=1000) (by rw[List.length_map];exact hl) rfl) cl) rfl) rfl (bAll_map (rest ns) own)) rfl) rfl (fun z=>?_) (fun z=>⟨by rw[z];rfl,rfl⟩)
 rw[z,Bool.true_and];exact callS_ev rfl rfl (one_sided_ev h hl) rfl
theorem ow_mem {w:List (Nat×Nat)} {p:Nat×Nat} {k:Nat} (h:k∈ow w p):p.1<=k/\k<p.2/\tkn w p k=false:=by
 obtain⟨h1,h2⟩:=List.mem_filter.mp h;have:=pts_mem.mp h1;refine⟨this.1,this.2,?_⟩;cases e:tkn w p k with
 | false=>rfl
 | true=>rw[e]at h2;cases h2
theorem ow_len (w:List (Nat×Nat)) (p:Nat×Nat):(ow w p).length<=p.2:=by
 have:=List.length_filter_le (fun k=>!tkn w p k) (pts p);have e:(pts p).length=p.2-p.1:=by unfold pts;rw[List.length_map,List.length_range]
 unfold ow;omega
noncomputable def knots (ns:List Int):List (Nat×Nat):=(W ns).filter fun p=>knB ns (ow (W ns) p)
theorem knots_ev {ns:List Int} (hl:ns.length<=100):G_knots_of [IL ns]=some (PL (knots ns),true):=by
 have cl:=compL_list (fg:=gN 0) (fc:=C_knots_of_1) (fe:=E_knots_of_1) (k:=1) prD prD (fun p=>knB ns (ow (W ns) p)) [.e,.v (IL ns),.o (DF (owD ns) (W ns))] (W ns) fun p hp=>by
  have hm:=W_mem hp;refine⟨[.v (prD p),.v (IL ns),.o (DF (owD ns) (W ns))],[.v (prD p),.v (IL ns),.o (DF (owD ns) (W ns))],rfl,pN (callS_ev (rG rfl (rG (rL rfl rfl rfl rfl (dgetF hp)) rfl)) rfl (is_knot_ev (ns:=ns) (own:=ow (W ns) p) (fun k hk=>by have:=ow_mem hk;omega) (by have:=ow_len (W ns) p;omega)) rfl) rfl,fun _=>rfl,fun _=>⟨.d (prD p),[.v (prD p),.v (IL ns),.o (DF (owD ns) (W ns))],[.v (prD p),.v (IL ns),.o (DF (owD ns) (W ns))],rfl,rfl,rfl⟩⟩
 refine body_ev (o:=.rt (.f (PL (knots ns))) [.v (IL ns),.o (DF (owD ns) (W ns))]) rfl ?_ rfl;refine rM (s:=[.v (IL ns),.o (DF (owD ns) (W ns))]) (set_f (call_ev rfl rfl (own_points_ev hl)) rfl) ?_;exact ret_ev (comp_ev (il_ev (cb_ev rfl rfl (sortF (W_lex ns))) rfl) (few2 (n:=10000) (by rw[List.length_map];exact W_len hl) rfl) cl)
noncomputable def b2i (b:Bool):Int:=if b=true then 1 else 0
theorem sum_b:∀l:List Bool,0<=(l.map b2i).sum/\(l.map b2i).sum<=l.length/\((l.map b2i).sum=0↔l.any id=false)/\((l.map b2i).sum=(l.length:Int)↔l.all id=true)
 | []=>by simp
 | b::r=>by
  obtain⟨h1,h2,h3,h4⟩:=sum_b r;rw[List.map_cons,List.sum_cons,List.length_cons,List.any_cons,List.all_cons];cases b with
  | true =>
   have e:b2i true=1:=rfl;rw[e];refine⟨by omega,by omega,⟨fun z=>by omega,fun z=>by simp at z⟩,?_⟩
   rw[show(id true&&r.all id)=r.all id from Bool.true_and _,← h4];omega
  | false =>
   have e:b2i false=0:=rfl;rw[e];refine⟨by omega,by omega,?_,⟨fun z=>by omega,fun z=>by simp at z⟩⟩
   rw[show(id false||r.any id)=r.any id from Bool.false_or _,← h3];omega
noncomputable def lkB (ns:List Int) (own:List Nat):Bool:=decide (0<(sd ns own).length)&&(decide (((sd ns own).map b2i).sum=0)||decide (((sd ns own).map b2i).sum=((sd ns own).length:Int)))
theorem rest_whole {ns:List Int} {k:Nat} (h:k+1<ns.length) (hr:rest ns k=true):(k,k+1)∈W ns:=by
 have e:=of_decide_eq_true hr;refine List.mem_filter.mpr ⟨S_mem.mpr ⟨by omega,h,?_⟩,?_⟩
 ·unfold spB;rw[show k+1 - k=1 by omega]
  unfold spK;show(decide (mx (ab (av ns k)) (ab (av ns (k+1)))-mn (ab (av ns k)) (ab (av ns (k+1)))=((1:Nat):Int))&&pairB (av ns k) (av ns (k+1)) (mn (ab (av ns k)) (ab (av ns (k+1)))) (mx (ab (av ns k)) (ab (av ns (k+1)))))=true;rw[e];generalize av ns k=a;by_cases c:0<=a
  ·have e1:ab a=a:=by unfold ab;rw[if_neg (by omega)]
   have e2:ab (a+1)=a+1:=by unfold ab;rw[if_neg (by omega)]
   have e3:mn a (a+1)=a:=by unfold mn;rw[if_neg (by omega)]
   have e4:mx a (a+1)=a+1:=by unfold mx;rw[if_pos (by omega)]
   rw[e1,e2,e3,e4,decide_eq_true (by omega),Bool.true_and]
   exact decide_eq_true (.inl ⟨rfl,rfl⟩)
  ·have e1:ab a=-a:=by unfold ab;rw[if_pos (by omega)]
   have e2:ab (a+1)=-a-1:=by unfold ab;split<;>omega
   have e3:mn (-a) (-a-1)=-a-1:=by unfold mn;rw[if_pos (by omega)]
   have e4:mx (-a) (-a-1)=-a:=by unfold mx;rw[if_neg (by omega)]
   rw[e1,e2,e3,e4,decide_eq_true (by omega),Bool.true_and]
   exact decide_eq_true (.inr ⟨by omega,by omega⟩)
 ·show(!fallsB (S ns) k (k+1))=true;unfold fallsB;rw[show k+1 - (k+1)=0 by omega];rfl
theorem agree {ns:List Int} {p:Nat×Nat} (hp:p∈W ns):knB ns (ow (W ns) p)=lkB ns ((ow (W ns) p).filter fun k=>!rest ns k):=by
 have hm:=W_mem hp;by_cases c:∃k∈ow (W ns) p,rest ns k=true
 ·obtain⟨k,hk,hr⟩:=c;obtain⟨k1,k2,k3⟩:=ow_mem hk;have hw:=rest_whole (by omega) hr
  have hpe:p=(k,k+1):=Classical.byContradiction fun ne=>by
   have:tkn (W ns) p k=true:=List.any_eq_true.mpr ⟨(k,k+1),hw,by
    unfold wI
    rw[decide_eq_true (show(k,k+1)≠p from fun z=>ne z.symm),decide_eq_true k1,decide_eq_true (show(k,k+1).2<=p.2 by show k+1<=p.2;omega),decide_eq_true (show(k,k+1).1<=k from Nat.le_refl _),decide_eq_true (show k<(k,k+1).2 from Nat.lt_succ_self _)];rfl⟩
   rw[this]at k3;cases k3
  have all:∀x∈ow (W ns) p,rest ns x=true:=fun x hx=>by
   obtain⟨x1,x2,_⟩:=ow_mem hx;rw[hpe]at x1 x2;have x1':k<=x:=x1;have x2':x<k+1:=x2;have:x=k:=by omega
   rw[this];exact hr
  have e1:(ow (W ns) p).all (rest ns)=true:=List.all_eq_true.mpr all;have e2:((ow (W ns) p).filter fun k=>!rest ns k)=[]:=List.filter_eq_nil_iff.mpr fun x hx=>by rw[all x hx];decide
  unfold knB lkB;rw[e1,e2];rfl
 ·have no:∀x∈ow (W ns) p,rest ns x=false:=fun x hx=>by
   cases e:rest ns x with
   | false=>rfl
   | true=>exact absurd ⟨x,hx,e⟩ c
  have e2:((ow (W ns) p).filter fun k=>!rest ns k)=ow (W ns) p:=List.filter_eq_self.mpr fun x hx=>by rw[no x hx];rfl
  rw[e2];unfold knB lkB;obtain⟨_,_,s3,s4⟩:=sum_b (sd ns (ow (W ns) p));have a1:decide (((sd ns (ow (W ns) p)).map b2i).sum=0)=!(sd ns (ow (W ns) p)).any id:=by
   cases e:(sd ns (ow (W ns) p)).any id with
   | false=>rw[decide_eq_true (s3.mpr e)];rfl
   | true=>rw[decide_eq_false fun z=>by rw[s3.mp z]at e;cases e];rfl
  have a2:decide (((sd ns (ow (W ns) p)).map b2i).sum=((sd ns (ow (W ns) p)).length:Int))=(sd ns (ow (W ns) p)).all id:=by
   cases e:(sd ns (ow (W ns) p)).all id with
   | true=>rw[decide_eq_true (s4.mpr e)]
   | false=>rw[decide_eq_false fun z=>by rw[s4.mp z]at e;cases e]
  rw[a1,a2,Bool.or_comm ((sd ns (ow (W ns) p)).all id)];congr 1;cases h:ow (W ns) p with
  | nil=>rfl
  | cons x r =>
   have:((x::r).all (rest ns))=false:=by rw[List.all_cons,no x (by rw[h];exact List.mem_cons_self)];rfl
   rw[this,decide_eq_true]
   ·rfl
   ·unfold sd;rw[List.flatMap_cons];simp
noncomputable def innB (k:Nat) (p q:Nat×Nat):Bool:=(decide (p.1<=q.1)&&(decide (q.1<=k)&&(decide (k<q.2)&&decide (q.2<=p.2))))&&decide (q≠p)
theorem inn_tkn (w:List (Nat×Nat)) (p:Nat×Nat) (k:Nat):(w.filter (innB k p)).isEmpty=!tkn w p k:=by
 unfold tkn;induction w with
 | nil=>rfl
 | cons q r ih =>
  have e:innB k p q=(wI q p&&(decide (q.1<=k)&&decide (k<q.2))):=by
   unfold innB wI;cases decide (q≠p)<;>cases decide (p.1<=q.1)<;>cases decide (q.2<=p.2)<;>cases decide (q.1<=k)<;>cases decide (k<q.2)<;>rfl
  rw[List.any_cons,← e,List.filter_cons];cases innB k p q with
  | true=>rfl
  | false=>simpa using ih
theorem chLink_ev {b:D->D->Option Rz} {fe:FE} {rest:FCh} {ry r2:Rs} {st:En} {d1 d2:D} {c d:Bool} (h1:fe st=some (r2,st)) (h2:cont st ry=some d1) (h3:cont st r2=some d2) (h4:b d1 d2=some (.bl c,false)) (h5:rest r2 st=some (.d (.bl d),st)):fChLink b fe rest ry st=some (.d (.bl (c&&d)),st):=by
 cases c with
 | true=>simp only[fChLink,h1,h2,h3,h4,h5,Option.bind_some,Bool.true_and]
 | false=>simp only[fChLink,h1,h2,h3,h4,Option.bind_some,Bool.false_and]
theorem chLast_ev {b:D->D->Option Rz} {fe:FE} {ry r2:Rs} {st:En} {d1 d2:D} {c:Bool} (h1:fe st=some (r2,st)) (h2:cont st ry=some d1) (h3:cont st r2=some d2) (h4:b d1 d2=some (.bl c,false)):fChLast b fe ry st=some (.d (.bl c),st):=by
 simp only[fChLast,h1,h2,h3,h4,Option.bind_some];rfl
theorem chN_ev {fa:FE} {f:FCh} {st s:En} {r:Rs} {o:Option (Rs×En)} (h:fa st=some (r,s)) (h2:f r s=o):fChN fa f st=o:=by
 simp only[fChN,h,Option.bind_some];exact h2
theorem cond_ev (q p:Nat×Nat) (k:Nat):C_law_is_knot_1 [.v (prD q),.v (.int (k:Int)),.v (prD p)]=some (innB k p q,[.v (prD q),.v (.int (k:Int)),.v (prD p)]):=by
 have t1:fTest (fChN (fOp bIx (fVar 2) (fC (.int 0))) (fChLink bLe (fOp bIx (fVar 0) (fC (.int 0))) (fChLink bLe (fVar 1) (fChLink bLt (fOp bIx (fVar 0) (fC (.int 1))) (fChLast bLe (fOp bIx (fVar 2) (fC (.int 1)))))))) [.v (prD q),.v (.int (k:Int)),.v (prD p)]=some (decide (p.1<=q.1)&&(decide (q.1<=k)&&(decide (k<q.2)&&decide (q.2<=p.2))),[.v (prD q),.v (.int (k:Int)),.v (prD p)]) :=
  pN (chN_ev (rL rfl rfl rfl rfl (ix0_pr p)) (chLink_ev (rL rfl rfl rfl rfl (ix0_pr q)) rfl rfl le_ev (chLink_ev (r2:=.d (.int (k:Int))) rfl rfl rfl le_ev (chLink_ev (rL rfl rfl rfl rfl (ix1_pr q)) rfl rfl lt_evN (chLast_ev (rL rfl rfl rfl rfl (ix1_pr p)) rfl rfl le_ev))))) rfl
 unfold innB;cases c:(decide (p.1<=q.1)&&(decide (q.1<=k)&&(decide (k<q.2)&&decide (q.2<=p.2)))) with
 | true =>
  rw[c]at t1;rw[Bool.true_and];exact and_t t1 (pN (rL rfl rfl rfl rfl (neD_pr q p)) rfl)
 | false =>
  rw[c]at t1;exact and_f t1
open Classical in
theorem eq_nil (l:List (Nat×Nat)):bEqD (PL l) (.lst [])=some (.bl l.isEmpty,false):=by
 have e1:bEq (PL l) (.lst [])=none:=rfl;have p1:Pl 40 (PL l):=.lst fun d hd=>by
  obtain⟨p,_,rfl⟩:=List.mem_map.mp hd;exact .tup fun d hd=>by
   rcases List.mem_cons.mp hd with rfl|hd
   ·exact .int _ _
   ·rw[List.mem_singleton.mp hd];exact .int _ _
 have p2:Pl 40 (.lst []):=.lst fun d hd=>by cases hd
 unfold bEqD orD;rw[e1];show bEqP false _ _=_;unfold bEqP;rw[if_pos ⟨p1,p2⟩];simp only[Bool.false_eq_true,if_false];congr 3;cases l with
 | nil=>exact decide_eq_true rfl
 | cons x r=>exact decide_eq_false fun z=>by injection z with z;cases z
theorem neDI_ev {i j:Int}:bNeD (.int i) (.int j)=some (.bl (!decide (i=j)),false):=by
 unfold bNeD orD;rw[neI_ev]
theorem in_two (s n:Int):bInD (.int s) (.tup [.int 0,.int n])=some (.bl (decide (s=0)||decide (s=n)),false):=by
 have e:bIn (.int s) (.tup [.int 0,.int n])=some (.bl (decide (s=0)||decide (s=n)),false):=by
  show some (D.bl (inV (.int s) [.int 0,.int n]),false)=_;congr 3;show(eqV (.int 0) (.int s)||(eqV (.int n) (.int s)||false))=_;have f:∀a b:Int,eqV (.int a) (.int b)=decide (b=a):=fun a b=>by
   show decide (_=_)=_;exact decide_eq_decide.mpr ⟨fun z=>by first|exact z.symm|(injection z with z;exact z.symm),fun z=>by rw[z]⟩
  rw[f,f,Bool.or_false]
 unfold bInD orD;rw[e]
noncomputable def sid (ns:List Int) (w:List (Nat×Nat)) (p:Nat×Nat) (ks:List Nat):List Bool:=sd ns ((ks.filter fun k=>!tkn w p k).filter fun k=>!rest ns k)
noncomputable abbrev BI (l:List Bool):D:=.lst ((l.map b2i).map D.int)
theorem sid_snoc (ns:List Int) (w:List (Nat×Nat)) (p:Nat×Nat) (g:List Nat) (k:Nat):sid ns w p (g++[k])=sid ns w p g++if (!tkn w p k&&!rest ns k)=true then [neg ns k,neg ns (k+1)] else []:=by
 unfold sid sd;rw[List.filter_append,List.filter_append,List.flatMap_append];congr 1;rw[List.filter_cons,List.filter_nil];cases tkn w p k with
 | true=>rfl
 | false =>
  show List.flatMap _ (List.filter _ [k])=_;rw[List.filter_cons,List.filter_nil];cases rest ns k<;>rfl
theorem sid_len (ns:List Int) (w:List (Nat×Nat)) (p:Nat×Nat) (g:List Nat):(sid ns w p g).length<=g.length*2:=by
 unfold sid sd;have h1:=flat_len ((g.filter fun k=>!tkn w p k).filter fun k=>!rest ns k) (fun k=>[neg ns k,neg ns (k+1)]) 2 fun x _=>by simp
 have h2:=List.length_filter_le (fun k=>!rest ns k) (g.filter fun k=>!tkn w p k);have h3:=List.length_filter_le (fun k=>!tkn w p k) g;have:((g.filter fun k=>!tkn w p k).filter fun k=>!rest ns k).length*2<=g.length*2:=Nat.mul_le_mul_right 2 (by omega)
 omega
theorem lk_turn {ns:List Int} {w:List (Nat×Nat)} {p:Nat×Nat} {k:Nat} {l:List Bool} {s5:Sl} (h:k+1<ns.length) (hw:w.length<=10000) (hl:l.length<=1000) (i5:s5.isIo=false) :
  ∃t5,B_law_is_knot_1 [.v (IL ns),.v (PL w),.v (prD p),.o (BI l),.v (.int (k:Int)),s5]=some (.nx [.v (IL ns),.v (PL w),.v (prD p),.o (BI (l++if (!tkn w p k&&!rest ns k)=true then [neg ns k,neg ns (k+1)] else [])),.v (.int (k:Int)),t5])/\t5.isIo=false:=by
 have cl:=compL_list (fg:=gN 0) (fc:=C_law_is_knot_1) (fe:=E_law_is_knot_1) (k:=1) prD prD (innB k p) [.e,.v (.int (k:Int)),.v (prD p)] w fun q hq=>⟨[.v (prD q),.v (.int (k:Int)),.v (prD p)],[.v (prD q),.v (.int (k:Int)),.v (prD p)],rfl,cond_ev q p k,fun _=>rfl,fun _=>⟨.d (prD q),[.v (prD q),.v (.int (k:Int)),.v (prD p)],[.v (prD q),.v (.int (k:Int)),.v (prD p)],rfl,rfl,rfl⟩⟩;refine⟨.o (PL (w.filter (innB k p))),?_,rfl⟩;refine rM (s:=[.v (IL ns),.v (PL w),.v (prD p),.o (BI l),.v (.int (k:Int)),.o (PL (w.filter (innB k p)))]) (set_f (comp_ev (s1:=[.v (IL ns),.v (PL w),.v (prD p),.o (BI l),.v (.int (k:Int)),s5]) (il_ev rfl rfl) (few2 (n:=10000) (by rw[List.length_map];exact hw) rfl) cl) (fPut_ev (t:=s5) rfl i5)) ?_
 have t1:fTest (fOp bEqD (fVar 5) (fLst fNil)) [.v (IL ns),.v (PL w),.v (prD p),.o (BI l),.v (.int (k:Int)),.o (PL (w.filter (innB k p)))]=some (!tkn w p k,[.v (IL ns),.v (PL w),.v (prD p),.o (BI l),.v (.int (k:Int)),.o (PL (w.filter (innB k p)))]):=by
  rw[← inn_tkn];exact pN (rL rfl rfl rfl rfl (eq_nil _)) rfl
 have er:decide (av ns (k+1)-av ns k=1)=rest ns k:=decide_eq_decide.mpr ⟨fun z=>by omega,fun z=>by omega⟩
 have ixk:=ix_nat (av_at (ns:=ns) (i:=k) (by omega))
 have t2:fTest (fOp bNeD (fOp bSub (fOp bIx (fVar 0) (fOp bAdd (fVar 4) (fC (.int 1)))) (fOp bIx (fVar 0) (fVar 4))) (fC (.int 1))) [.v (IL ns),.v (PL w),.v (prD p),.o (BI l),.v (.int (k:Int)),.o (PL (w.filter (innB k p)))]=some (!rest ns k,[.v (IL ns),.v (PL w),.v (prD p),.o (BI l),.v (.int (k:Int)),.o (PL (w.filter (innB k p)))]):=by
  rw[← er];exact pN (rL (rL (rL rfl (rL rfl rfl rfl rfl rfl) rfl rfl (ixS h)) (rL rfl rfl rfl rfl ixk) rfl rfl rfl) rfl rfl rfl neDI_ev) rfl
 cases c1:tkn w p k with
 | true =>
  rw[c1]at t1;show(sIf _ _ _) _=some (.nx [_,_,_,.o (BI (l++[])),_,_]);rw[List.append_nil];exact if_f (and_f t1) rfl
 | false =>
  rw[c1]at t1;cases c2:rest ns k with
  | true =>
   rw[c2]at t2;show(sIf _ _ _) _=some (.nx [_,_,_,.o (BI (l++[])),_,_]);rw[List.append_nil];exact if_f (and_t t1 t2) rfl
  | false =>
   rw[c2]at t2;refine if_t (and_t t1 t2) ?_;refine set_f (x:=BI (l++[neg ns k,neg ns (k+1)])) (rL rfl (lst_ev (ds:=[.int (b2i (neg ns k)),.int (b2i (neg ns (k+1)))]) (rG (cb_ev (rG (rL (rL rfl rfl rfl rfl ixk) rfl rfl rfl rfl) rfl) rfl rfl) (rG (cb_ev (rG (rL (rL rfl (rL rfl rfl rfl rfl rfl) rfl rfl (ixS h)) rfl rfl rfl rfl) rfl) rfl rfl) rfl)) rfl (by simp)) rfl rfl (z:=(BI (l++[neg ns k,neg ns (k+1)]),true)) ?_) rfl
   refine(catL_ev (by rw[List.length_map,List.length_map];simp only[List.length_cons,List.length_nil];omega)).trans ?_
   rw[BI,List.map_append,List.map_append];rfl
theorem lk_ev {ns:List Int} {p:Nat×Nat} (hl:ns.length<=100) (hp:p∈W ns):G_law_is_knot [IL ns,PL (W ns),prD p]=some (.bl (knB ns (ow (W ns) p)),false):=by
 have hm:=W_mem hp;have pl:(pts p).length<=100:=by unfold pts;rw[List.length_map,List.length_range];omega
 obtain⟨sf,el,s4,s5,rfl,_⟩:=forL_list (fg:=gN 4) (B:=B_law_is_knot_1) (fun k:Nat=>D.int (k:Int)) (pts p) (fun gone st=>∃s4 s5,st=[.v (IL ns),.v (PL (W ns)),.v (prD p),.o (BI (sid ns (W ns) p gone)),s4,s5]/\s4.isIo=false/\s5.isIo=false)
  (by
   rintro gone k rst st ha ⟨s4,s5,rfl,i4,i5⟩;have hk:k∈pts p:=by rw[ha];exact List.mem_append_right _ List.mem_cons_self
   have hk2:=pts_mem.mp hk;have ln:=congrArg List.length ha;rw[List.length_append,List.length_cons]at ln;have sl:=sid_len ns (W ns) p gone;obtain⟨t5,e1,i5'⟩:=lk_turn (ns:=ns) (w:=W ns) (p:=p) (k:=k) (l:=sid ns (W ns) p gone) (s5:=s5) (by omega) (W_len hl) (by omega) i5
   exact⟨[.v (IL ns),.v (PL (W ns)),.v (prD p),.o (BI (sid ns (W ns) p gone)),.v (.int (k:Int)),s5],_,gN_ev (t:=s4) rfl i4,e1,.v (.int (k:Int)),t5,by rw[sid_snoc],rfl,i5'⟩)
  (pts p) [] [.v (IL ns),.v (PL (W ns)),.v (prD p),.o (BI []),.e,.e] rfl ⟨.e,.e,rfl,rfl,rfl⟩
 have fin:knB ns (ow (W ns) p)=(decide (0<(sid ns (W ns) p (pts p)).length)&&(decide (((sid ns (W ns) p (pts p)).map b2i).sum=0)||decide (((sid ns (W ns) p (pts p)).map b2i).sum=((sid ns (W ns) p (pts p)).length:Int)))):=agree hp;generalize sid ns (W ns) p (pts p)=l at *;have ln:bLen [BI l]=some (.int (l.length:Int),false):=by
  show some (D.int (((l.map b2i).map D.int).length:Nat),false)=_;rw[List.length_map,List.length_map]
 rw[fin];refine body_ev (o:=.rt (.d (.bl (decide (0<l.length)&&(decide ((l.map b2i).sum=0)||decide ((l.map b2i).sum=(l.length:Int)))))) [.v (IL ns),.v (PL (W ns)),.v (prD p),.o (BI l),s4,s5]) rfl ?_ rfl;refine rM (s:=[.v (IL ns),.v (PL (W ns)),.v (prD p),.o (BI []),.e,.e]) rfl ?_;have r:=rng2_ev (fa:=rZ (fOp bIx (fVar 2) (fC (.int 0))) (rZ (fOp bIx (fVar 2) (fC (.int 1))) fNil)) (st:=[.v (IL ns),.v (PL (W ns)),.v (prD p),.o (BI []),.e,.e]) (s1:=[.v (IL ns),.v (PL (W ns)),.v (prD p),.o (BI []),.e,.e]) (i:=(p.1:Int)) (j:=(p.2:Int)) (rs:=[.d (.int (p.1:Int)),.d (.int (p.2:Int))]) (rG (rL rfl rfl rfl rfl (ix0_pr p)) (rG (rL rfl rfl rfl rfl (ix1_pr p)) rfl)) rfl ⟨by omega,by omega,by omega,by omega⟩
 have e:((p.2:Int)-(p.1:Int)).toNat=p.2-p.1:=by omega (config:={})
 rw[e,rng_nat]at r;have er:(List.range (p.2-p.1)).map (fun t=>D.int ((p.1+t:Nat):Int))=(pts p).map fun k:Nat=>D.int (k:Int):=by unfold pts;rw[List.map_map];rfl
 rw[er]at r;refine rM (for_ev r el) (ret_ev ?_);have g0:bGt (.int (l.length:Int)) (.int 0)=some (.bl (decide (0<l.length)),false):=by
  rw[gt_ev,show decide ((0:Int)<(l.length:Int))=decide (0<l.length) from decide_eq_decide.mpr ⟨fun z=>by omega,fun z=>by omega⟩]
 refine andV_ev (c:=decide (0<l.length)) (s:=[.v (IL ns),.v (PL (W ns)),.v (prD p),.o (BI l),s4,s5]) (rL (cb_ev rfl rfl ln) rfl rfl rfl g0) rfl (fun z=>?_) (fun z=>⟨by rw[z];rfl,rfl⟩)
 rw[z,Bool.true_and];exact rL (cb_ev rfl rfl (sum_ev (l.map b2i))) (tup_ev (rG rfl (rG (cb_ev rfl rfl ln) rfl)) rfl (by simp)) rfl rfl (in_two _ _)
theorem idl_knots (n:Nat):knots (idl n)=[]:=List.filter_eq_nil_iff.mpr fun p hp=>by
 have hm:=W_mem hp;rw[idl_len]at hm;have:(ow (W (idl n)) p).all (rest (idl n))=true:=List.all_eq_true.mpr fun k hk=>by
  have:=ow_mem hk;unfold rest;rw[idl_av (by omega),idl_av (by omega)]
  exact decide_eq_true (by omega)
 unfold knB;rw[this,Bool.not_true,Bool.false_and];exact Bool.false_ne_true
theorem right_ev {c:Int} {ns:List Int} (N:Nm c ns) (hc:c<=2000) (hl:ns.length<=100):G_law_right [IL ns]=some (.bl true,false):=by
 have wl:=W_len hl;have kl:(knots ns).length<=10000:=by
  have:=List.length_filter_le (fun p=>knB ns (ow (W ns) p)) (W ns);unfold knots;omega
 have c1:=compL_list (fg:=gN 0) (fc:=C_law_right_1) (fe:=E_law_right_1) (k:=1) prD prD (fun p=>knB ns (ow (W ns) p)) [.e,.v (IL ns),.v (PL (W ns))] (W ns) fun p hp=>⟨[.v (prD p),.v (IL ns),.v (PL (W ns))],[.v (prD p),.v (IL ns),.v (PL (W ns))],rfl,pN (callS_ev rfl rfl (lk_ev hl hp) rfl) rfl,fun _=>rfl,fun _=>⟨.d (prD p),[.v (prD p),.v (IL ns),.v (PL (W ns))],[.v (prD p),.v (IL ns),.v (PL (W ns))],rfl,rfl,rfl⟩⟩;have c2:=compL_lmap (fg:=gN 0) (fc:=fYes) (fe:=E_law_right_2) (k:=1) prD (fun _=>D.bl true) [.e] (knots ns) fun p _=>⟨[.v (prD p)],[.v (prD p)],.d (.bl true),[.v (prD p)],[.v (prD p)],rfl,rfl,rfl,rfl,rfl⟩;have kI:=knots_ev (ns:=idl ns.length) (by rw[idl_len];exact hl)
 rw[idl_knots]at kI;have lr:VF22.fLR1 (rZ (fCB bLen (rZ (fVar 0) fNil)) fNil) [.v (IL ns),.o (IL ns),.v (PL (W ns)),.o (PL (knots ns)),.o (.lst ((knots ns).map prD++[.int 0]))]=some (.f (IL (idl ns.length)),[.v (IL ns),.o (IL ns),.v (PL (W ns)),.o (PL (knots ns)),.o (.lst ((knots ns).map prD++[.int 0]))]):=by
  have r:=lr1_ev (fa:=rZ (fCB bLen (rZ (fVar 0) fNil)) fNil) (st:=[.v (IL ns),.o (IL ns),.v (PL (W ns)),.o (PL (knots ns)),.o (.lst ((knots ns).map prD++[.int 0]))]) (j:=(ns.length:Int)) (rs:=[.d (.int (ns.length:Int))]) (s:=[.v (IL ns),.o (IL ns),.v (PL (W ns)),.o (PL (knots ns)),.o (.lst ((knots ns).map prD++[.int 0]))]) (rG (cb_ev rfl rfl (len_IL ns)) rfl) rfl ⟨by omega,by omega,by omega,by omega (config:={}),by omega⟩
  have e1:((ns.length:Int)-0).toNat=ns.length:=by omega (config:={})
  have e2:rng 0 ns.length=(idl ns.length).map D.int:=by
   unfold rng idl;rw[List.map_map];exact List.map_congr_left fun t _=>by show D.int (0+(t:Int))=D.int (t:Int);rw[Int.zero_add]
  rw[e1,e2]at r;exact r
 refine body_ev (o:=.rt (.d (.bl true)) [.v (IL ns),.o (IL (idl ns.length)),.v (PL (W ns)),.o (PL (knots ns)),.o (.lst ((knots ns).map prD++[.int 0]))]) rfl ?_ rfl;refine rM (s:=[.v (IL ns),.o (IL ns),.e,.e,.e]) rfl ?_;refine rM (s:=[.v (IL ns),.o (IL ns),.o (PL (W ns)),.e,.e]) (set_f (call_ev rfl rfl (wholes_ev N hc hl)) rfl) ?_;refine rM (s:=[.v (IL ns),.o (IL ns),.v (PL (W ns)),.o (PL (knots ns)),.e]) (set_f (comp_ev (s1:=[.v (IL ns),.o (IL ns),.v (PL (W ns)),.e,.e]) (il_ev rfl rfl) (few2 (n:=10000) (by rw[List.length_map];exact wl) rfl) c1) rfl) ?_
 refine rM (s:=[.v (IL ns),.o (IL ns),.v (PL (W ns)),.o (PL (knots ns)),.o (PL (knots ns))]) (set_f (callP_ev rfl rfl (knots_ev hl) (hard_PL _)) rfl) ?_;refine rM (s:=[.v (IL ns),.o (IL ns),.v (PL (W ns)),.o (PL (knots ns)),.o (PL (knots ns))]) (if_f (or_f (not_ev (c:=true) (pN (r:=.d (.bl true)) (s:=[.v (IL ns),.o (IL ns),.v (PL (W ns)),.o (PL (knots ns)),.o (PL (knots ns))]) rfl rfl)) (or_f (pN (rL rfl rfl rfl rfl (ne_PL _)) rfl) (pN (rL rfl rfl rfl rfl (ne_IL _)) rfl))) rfl) ?_
 refine rM (s:=[.v (IL ns),.o (IL ns),.v (PL (W ns)),.o (PL (knots ns)),.o (PL (knots ns))]) (if_f (not_ev (c:=true) (pN (cb_ev (rG (comp_ev (iow_ev rfl) (few2 (n:=10000) (by rw[List.length_map];exact kl) rfl) c2) rfl) rfl (z:=(.bl true,false)) (by
  refine(bAll_map (fun _=>true) (knots ns)).trans ?_
  rw[List.all_eq_true.mpr fun _ _=>rfl])) rfl)) rfl) ?_
 refine rM (s:=[.v (IL ns),.o (IL ns),.v (PL (W ns)),.o (PL (knots ns)),.o (.lst ((knots ns).map prD++[.int 0]))]) (drop_ev (m_ev rfl rfl rfl rfl rfl rfl rfl (app_ev (by rw[List.length_map];omega)))) ?_
 refine rM (s:=[.v (IL ns),.o (IL ns),.v (PL (W ns)),.o (PL (knots ns)),.o (.lst ((knots ns).map prD++[.int 0]))]) (if_f (pN (rL (callP_ev rfl rfl (knots_ev hl) (hard_PL _)) rfl rfl rfl (ne_PL _)) rfl) rfl) ?_
 refine rM (s:=[.v (IL ns),.o (IL (idl ns.length)),.v (PL (W ns)),.o (PL (knots ns)),.o (.lst ((knots ns).map prD++[.int 0]))]) (slc_ev lr rfl rfl rfl (z':=IL (idl ns.length)) (by
  show(if (ns.map D.int).length+((idl ns.length).map D.int).length<=1000000 then some (D.lst ((idl ns.length).map D.int)) else none)=_
  rw[if_pos (by rw[List.length_map,List.length_map,idl_len];omega)])) ?_
 exact ret_ev (rL (callP_ev rfl rfl kI (hard_PL _)) rfl rfl rfl (eq_nil []))
end K43
namespace VF
open PySem L2
theorem slN_ev {ds:List D} {b:Nat} (hb:b<=ds.length):bSl (.lst ds) none (some (b:Int))=some (.lst (ds.take b),true):=by
 have e1:bSlL (.lst ds) none (some (b:Int))=some (.lst (ds.take b),true):=by
  show some (D.lst (cutD ds none (some (b:Int))),true)=_;unfold cutD;rw[HT.sIx_nat,HT.sIx_none,Nat.min_eq_left hb];rfl
 unfold bSl orS;rw[e1]
theorem slE_ev {ds:List D} {a:Nat} (ha:a<=ds.length):bSl (.lst ds) (some (a:Int)) none=some (.lst (ds.drop a),true):=by
 have e1:bSlL (.lst ds) (some (a:Int)) none=some (.lst (ds.drop a),true):=by
  show some (D.lst (cutD ds (some (a:Int)) none),true)=_;unfold cutD;rw[HT.sIx_nat,HT.sIx_none,Nat.min_eq_left ha,List.take_of_length_le (by rw[List.length_drop];omega)]
 unfold bSl orS;rw[e1]
end VF
namespace K43
open PySem L2 VF VF22
theorem Nm.perm {c:Int} {ns ms:List Int} (N:Nm c ns) (h:(ms.map ab).Perm (ns.map ab)):Nm c ms:=by
 refine⟨h.nodup_iff.mpr N.nd,fun n hn=>?_⟩;obtain⟨m,hm,e⟩:=List.mem_map.mp (h.mem_iff.mp (List.mem_map_of_mem hn));rw[← e];exact N.le m hm
noncomputable def trn (ns:List Int) (a n:Nat):List Int:=ns.take a++(((ns.drop a).take n).reverse.map fun x=>0-x)++ns.drop (a+n)
theorem trn_perm (ns:List Int) (a n:Nat):((trn ns a n).map ab).Perm (ns.map ab):=by
 have e:ns.take a++(ns.drop a).take n++ns.drop (a+n)=ns:=by
  rw[List.append_assoc,← List.drop_drop,List.take_append_drop,List.take_append_drop]
 have e2:((((ns.drop a).take n).reverse.map fun x=>0-x).map ab)=(((ns.drop a).take n).map ab).reverse:=by
  rw[List.map_map,← List.map_reverse];exact List.map_congr_left fun x _=>ab_neg x
 unfold trn;rw[List.map_append,List.map_append,e2];have p:((ns.take a).map ab++(((ns.drop a).take n).map ab).reverse++(ns.drop (a+n)).map ab).Perm ((ns.take a).map ab++((ns.drop a).take n).map ab++(ns.drop (a+n)).map ab):=((List.reverse_perm _).append_left _).append_right _;rw[← List.map_append,← List.map_append,e]at p;exact p
theorem trn_len (ns:List Int) (a n:Nat):(trn ns a n).length=ns.length:=by
 have:=(trn_perm ns a n).length_eq;rwa [List.length_map,List.length_map]at this
theorem turned_ev {ns:List Int} {i j:Nat} (h:i<=j) (hj:j<ns.length) (hl:ns.length<=100):G_law_turned [IL ns,.int (i:Int),.int (j:Int)]=some (IL (trn ns (i+1) (j-i)),true):=by
 have cl:=compL_lmap (fg:=gN 0) (fc:=fYes) (fe:=E_law_turned_1) (k:=1) D.int (fun x=>D.int (0-x)) [.e] ((ns.drop (i+1)).take (j-i)).reverse fun x _=>⟨[.v (.int x)],[.v (.int x)],.d (.int (0-x)),[.v (.int x)],[.v (.int x)],rfl,rfl,rfl,rfl,rfl⟩;have s1:=slN_ev (ds:=ns.map D.int) (b:=i+1) (by rw[List.length_map];omega)
 have s2:=slL_ev (ds:=ns.map D.int) (a:=i+1) (b:=j+1) (by omega) (by rw[List.length_map];omega)
 have s3:=slE_ev (ds:=ns.map D.int) (a:=j+1) (by rw[List.length_map];omega)
 rw[show j+1 - (i+1)=j - i by omega,← List.map_drop,← List.map_take]at s2
 rw[← List.map_take]at s1;rw[← List.map_drop]at s3;rw[List.map_reverse]at cl;have ll:((((ns.drop (i+1)).take (j-i)).map D.int).reverse).length<=100:=by
  rw[List.length_reverse,List.length_map,List.length_take,List.length_drop];omega
 have et:trn ns (i+1) (j-i)=ns.take (i+1)++(((ns.drop (i+1)).take (j-i)).reverse.map fun x=>0-x)++ns.drop (j+1):=by
  unfold trn;rw[show i+1+(j - i)=j+1 by omega]
 refine body_ev (o:=.rt (.f (IL (trn ns (i+1) (j-i)))) [.v (IL ns),.v (.int (i:Int)),.v (.int (j:Int))]) rfl (ret_ev ?_) rfl;refine rL (s1:=[.v (IL ns),.v (.int (i:Int)),.v (.int (j:Int))]) (rL (s1:=[.v (IL ns),.v (.int (i:Int)),.v (.int (j:Int))]) (sl_ev rfl rfl (oPart_ev (i:=((i+1:Nat):Int)) rfl rfl) rfl s1) (comp_ev (rvl_ev (sl_ev rfl (oPart_ev (i:=((i+1:Nat):Int)) rfl rfl) (oPart_ev (i:=((j+1:Nat):Int)) rfl rfl) rfl s2) rfl) (few2 (n:=100) ll rfl) cl) rfl rfl (catL_ev ?_)) (sl_ev rfl (oPart_ev (i:=((j+1:Nat):Int)) rfl rfl) rfl rfl s3) rfl rfl (z:=(IL (trn ns (i+1) (j-i)),true)) ?_
 ·simp only[List.length_map,List.length_reverse,List.length_take,List.length_drop];omega
 ·refine(catL_ev (by simp only[List.length_append,List.length_map,List.length_reverse,List.length_take,List.length_drop];omega)).trans ?_
  rw[et,IL,List.map_append,List.map_append,List.map_map];rfl
theorem law_val (ns:List Int):G_law [.fl (ns.map D.int)]=some (.bl true,false):=by
 obtain⟨sf,el,s1,s2,rfl,i1,i2⟩:=forL_list (fg:=gN 1) (B:=B_law_1) (fun t:Nat=>D.int (0+(t:Int))) (List.range 2) (fun _ st=>∃s1 s2,st=[.v (.fl (ns.map D.int)),s1,s2,.e,.e,.e]/\s1.isIo=false/\s2.isIo=false)
  (by
   rintro gone t rest st ha ⟨s1,s2,rfl,i1,i2⟩;obtain⟨rfl,ht⟩:=rng_split ha;obtain⟨δ,e1,f1⟩:=deal_ok ns (k:=0+(t:Int)) (by omega) (by omega)
   obtain⟨d,δ2,e2,d0,d1,f2⟩:=draw_ok (n:=4) f1 (by decide) (by decide)
   obtain⟨x,ex,hx⟩:∃x,bIx (.lst [.int 16,.int 16,.int 16,.int 40]) (.int d)=some (.int x,false)/\(x=16∨x=40):=by
    have:d=0∨d=1∨d=2∨d=3:=by omega
    rcases this with rfl|rfl|rfl|rfl
    ·exact⟨16,rfl,.inl rfl⟩
    ·exact⟨16,rfl,.inl rfl⟩
    ·exact⟨16,rfl,.inl rfl⟩
    ·exact⟨40,rfl,.inr rfl⟩
   obtain⟨y,ey,y0,y1⟩:∃y,bIx (.lst [.int x,.int 8]) (.int (0+(t:Int)))=some (.int y,false)/\5<=y/\y<=40:=by
    have:t=0∨t=1:=by omega
    rcases this with rfl|rfl
    ·exact⟨x,rfl,by omega,by omega⟩
    ·exact⟨8,rfl,by omega,by omega⟩
   obtain⟨ms,δ3,e3,N,l0,l1,f3⟩:=numbers_ok f2 y0 y1;have er:=right_ev N (by decide) (by omega)
   refine⟨[.v (.fl (ns.map D.int)),.v (.int (0+(t:Int))),s2,.e,.e,.e],[.v (.fl (ns.map D.int)),.v (.int (0+(t:Int))),.o δ3,.e,.e,.e],gN_ev (t:=s1) rfl i1,?_,_,_,rfl,rfl,rfl⟩;refine rM (s:=[.v (.fl (ns.map D.int)),.v (.int (0+(t:Int))),.o δ,.e,.e,.e]) (set_f (call_ev rfl rfl e1) (fPut_ev (t:=s2) rfl i2)) ?_
   exact if_f (not_ev (c:=true) (pN (callS_ev (rG (io_ev rfl rfl (rG (rL (lst_ev (rG (rL (lst_ev rfl rfl (by simp)) (io_ev rfl rfl rfl rfl rfl rfl e2) rfl rfl ex) rfl) rfl (by simp)) rfl rfl rfl ey) rfl) rfl rfl rfl e3) rfl) rfl er rfl) rfl)) rfl)
  (List.range 2) [] [.v (.fl (ns.map D.int)),.e,.e,.e,.e,.e] rfl ⟨.e,.e,rfl,rfl,rfl⟩
 obtain⟨δ,e1,f1⟩:=deal_ok ns (k:=2) (by omega) (by omega)
 obtain⟨ks,δ2,e2,N,l0,l1,f2⟩:=knotty_ok f1;obtain⟨x,δ3,e3,x0,x1,f3⟩:=draw_ok (n:=(ks.length:Int)-1) f2 (by omega) (by omega)
 obtain⟨y,δ4,e4,y0,y1,f4⟩:=draw_ok (n:=(ks.length:Int)-1) f3 (by omega) (by omega)
 obtain⟨a,b,ea,eb,hab,hb⟩:∃a b:Nat,mn x y=a/\mx x y=b/\a<=b/\b<ks.length:=by
  obtain⟨m1,m2,m3⟩:=mn_le x y;obtain⟨m4,m5,m6⟩:=mx_le x y;exact⟨(mn x y).toNat,(mx x y).toNat,by omega,by omega,by omega,by omega⟩
 have r1:=right_ev N (by decide) (by omega)
 have r2:=right_ev (N.perm (trn_perm ks (a+1) (b-a))) (by decide) (by rw[trn_len];omega)
 have te:=turned_ev hab hb (by omega:ks.length<=100)
 have ls:bLen [IL ks]=some (.int (ks.length:Int),false):=len_IL ks;have em:b2 gMin [.int x,.int y]=some (.int (a:Int),false):=by rw[← ea];rfl
 have ex:b2 gMax [.int x,.int y]=some (.int (b:Int),false):=by rw[← eb];rfl
 refine body_ev (o:=.rt (.d (.bl true)) [.v (.fl (ns.map D.int)),s1,.o δ4,.v (IL ks),.v (.int x),.v (.int y)]) rfl ?_ rfl;refine rM (for_ev (rng1_ev (j:=2) rfl rfl ⟨by decide,by decide⟩) el) ?_
 refine rM (s:=[.v (.fl (ns.map D.int)),s1,.o δ,.e,.e,.e]) (set_f (call_ev rfl rfl e1) (fPut_ev (t:=s2) rfl i2)) ?_;refine rM (s:=[.v (.fl (ns.map D.int)),s1,.o δ2,.o (IL ks),.e,.e]) (set_f (io_ev rfl rfl rfl rfl rfl rfl e2) rfl) ?_;refine rM (s:=[.v (.fl (ns.map D.int)),s1,.o δ3,.o (IL ks),.v (.int x),.e]) (set_d (io_ev rfl rfl (rG (rL (cb_ev rfl rfl ls) rfl rfl rfl rfl) rfl) rfl rfl rfl e3) rfl) ?_;refine rM (s:=[.v (.fl (ns.map D.int)),s1,.o δ4,.o (IL ks),.v (.int x),.v (.int y)]) (set_d (io_ev rfl rfl (rG (rL (cb_ev rfl rfl ls) rfl rfl rfl rfl) rfl) rfl rfl rfl e4) rfl) ?_;refine ret_ev (andV_t (callS_ev rfl rfl r1 rfl) rfl ?_);exact callS_ev (rG (call_ev (rG rfl (rG (cb_ev rfl rfl em) (rG (cb_ev rfl rfl ex) rfl))) rfl te) rfl) rfl r2 rfl
theorem law_imp {K:PySem.W.Frag} {vs:List V} {H:Hp} {Q:VK} {E:XK} (h:spLaw K vs H Q E):spV K G_law vs H Q E:=by
 obtain⟨a,ns,rfl,sq,_,q⟩:=h;refine⟨fun _=>False,[.fl (ns.map D.int)],(.bl true,false),El.one (.fl (vs:=ns.map V.int) ?_ (by simp) fun i v d h1 h2=>?_),fun p z=>z.elim,law_val ns,fun v H' _ r=>?_⟩
 ·rcases sq with s|s
  ·exact .inl ⟨s,fun z=>z⟩
  ·exact .inr fun H'=>.inr s
 ·rw[List.getElem?_map]at h1 h2;obtain⟨c,e1,rfl⟩:=Option.map_eq_some_iff.mp h1;rw[e1]at h2;obtain rfl:=Option.some.inj h2;exact .int _
 ·obtain rfl:=(show v=V.bl true from DA.ba (show DA K (fun _=>False) H' v (.bl true) from r));exact q H'
theorem all_mk {l:PySem.W.OpenLaw} {w:World} {K:PySem.W.Frag} {h:Heap} {mg:Str->Option Value} {fa:Addr}
  {f1:Addr} {od1 an1:Option Addr} {sl1:Array (Option Value)} {oc1 kV1 dc1 pm1 cd1 ct1:Value}
  {f2:Addr} {od2 an2:Option Addr} {sl2:Array (Option Value)} {oc2 kV2 dc2 pm2 cd2 ct2:Value}
  {f3:Addr} {od3 an3:Option Addr} {sl3:Array (Option Value)} {oc3 kV3 dc3 pm3 cd3 ct3:Value}
  {f4:Addr} {od4 an4:Option Addr} {sl4:Array (Option Value)} {oc4 kV4 dc4 pm4 cd4 ct4:Value}
  {f5:Addr} {od5 an5:Option Addr} {sl5:Array (Option Value)} {oc5 kV5 dc5 pm5 cd5 ct5:Value}
  {f6:Addr} {od6 an6:Option Addr} {sl6:Array (Option Value)} {oc6 kV6 dc6 pm6 cd6 ct6:Value}
  {f7:Addr} {od7 an7:Option Addr} {sl7:Array (Option Value)} {oc7 kV7 dc7 pm7 cd7 ct7:Value}
  {f8:Addr} {od8 an8:Option Addr} {sl8:Array (Option Value)} {oc8 kV8 dc8 pm8 cd8 ct8:Value}
  {f9:Addr} {od9 an9:Option Addr} {sl9:Array (Option Value)} {oc9 kV9 dc9 pm9 cd9 ct9:Value}
  {f10:Addr} {od10 an10:Option Addr} {sl10:Array (Option Value)} {oc10 kV10 dc10 pm10 cd10 ct10:Value}
  {f11:Addr} {od11 an11:Option Addr} {sl11:Array (Option Value)} {oc11 kV11 dc11 pm11 cd11 ct11:Value}
  {f12:Addr} {od12 an12:Option Addr} {sl12:Array (Option Value)} {oc12 kV12 dc12 pm12 cd12 ct12:Value}
  {f13:Addr} {od13 an13:Option Addr} {sl13:Array (Option Value)} {oc13 kV13 dc13 pm13 cd13 ct13:Value}
  {f14:Addr} {od14 an14:Option Addr} {sl14:Array (Option Value)} {oc14 kV14 dc14 pm14 cd14 ct14:Value}
  {f15:Addr} {od15 an15:Option Addr} {sl15:Array (Option Value)} {oc15 kV15 dc15 pm15 cd15 ct15:Value}
  {f16:Addr} {od16 an16:Option Addr} {sl16:Array (Option Value)} {oc16 kV16 dc16 pm16 cd16 ct16:Value}
  {f17:Addr} {od17 an17:Option Addr} {sl17:Array (Option Value)} {oc17 kV17 dc17 pm17 cd17 ct17:Value}
  {f18:Addr} {od18 an18:Option Addr} {sl18:Array (Option Value)} {oc18 kV18 dc18 pm18 cd18 ct18:Value}
  {f19:Addr} {od19 an19:Option Addr} {sl19:Array (Option Value)} {oc19 kV19 dc19 pm19 cd19 ct19:Value}
  {f20:Addr} {od20 an20:Option Addr} {sl20:Array (Option Value)} {oc20 kV20 dc20 pm20 cd20 ct20:Value}
  {f21:Addr} {od21 an21:Option Addr} {sl21:Array (Option Value)} {oc21 kV21 dc21 pm21 cd21 ct21:Value}
  {f22:Addr} {od22 an22:Option Addr} {sl22:Array (Option Value)} {oc22 kV22 dc22 pm22 cd22 ct22:Value}
  {f23:Addr} {od23 an23:Option Addr} {sl23:Array (Option Value)} {oc23 kV23 dc23 pm23 cd23 ct23:Value}
  {f24:Addr} {od24 an24:Option Addr} {sl24:Array (Option Value)} {oc24 kV24 dc24 pm24 cd24 ct24:Value}
  {f25:Addr} {od25 an25:Option Addr} {sl25:Array (Option Value)} {oc25 kV25 dc25 pm25 cd25 ct25:Value}
  (X:K.In h) (G:h.Ns mainGlobals mg) (hfa:mg "law"=some (.ref fa))
  (a1:PySem.W.nsIn K mainGlobals "spans_from"=some (some (.ref f1))) (l1:K.lookup f1=some ⟨oc1,od1,.func (PySem.W.fnOf "spans_from" "spans_from" (defArgs sspansfrom) (defBody sspansfrom) (defScope sspansfrom) .none kV1 dc1 pm1 an1 cd1 ct1),sl1⟩) (c1:PySem.W.codeIn K cd1 "spans_from"=true) (k1:PySem.W.keepIn K (.ref f1)=true)
  (a2:PySem.W.nsIn K mainGlobals "spans_of"=some (some (.ref f2))) (l2:K.lookup f2=some ⟨oc2,od2,.func (PySem.W.fnOf "spans_of" "spans_of" (defArgs sspansof) (defBody sspansof) (defScope sspansof) .none kV2 dc2 pm2 an2 cd2 ct2),sl2⟩) (c2:PySem.W.codeIn K cd2 "spans_of"=true) (k2:PySem.W.keepIn K (.ref f2)=true)
  (a3:PySem.W.nsIn K mainGlobals "falls_apart"=some (some (.ref f3))) (l3:K.lookup f3=some ⟨oc3,od3,.func (PySem.W.fnOf "falls_apart" "falls_apart" (defArgs sfallsapart) (defBody sfallsapart) (defScope sfallsapart) .none kV3 dc3 pm3 an3 cd3 ct3),sl3⟩) (c3:PySem.W.codeIn K cd3 "falls_apart"=true) (k3:PySem.W.keepIn K (.ref f3)=true)
  (a4:PySem.W.nsIn K mainGlobals "whole_spans"=some (some (.ref f4))) (l4:K.lookup f4=some ⟨oc4,od4,.func (PySem.W.fnOf "whole_spans" "whole_spans" (defArgs swholespans) (defBody swholespans) (defScope swholespans) .none kV4 dc4 pm4 an4 cd4 ct4),sl4⟩) (c4:PySem.W.codeIn K cd4 "whole_spans"=true) (k4:PySem.W.keepIn K (.ref f4)=true)
  (a5:PySem.W.nsIn K mainGlobals "within"=some (some (.ref f5))) (l5:K.lookup f5=some ⟨oc5,od5,.func (PySem.W.fnOf "within" "within" (defArgs swithin) (defBody swithin) (defScope swithin) .none kV5 dc5 pm5 an5 cd5 ct5),sl5⟩) (c5:PySem.W.codeIn K cd5 "within"=true) (k5:PySem.W.keepIn K (.ref f5)=true)
  (a6:PySem.W.nsIn K mainGlobals "points_in"=some (some (.ref f6))) (l6:K.lookup f6=some ⟨oc6,od6,.func (PySem.W.fnOf "points_in" "points_in" (defArgs spointsin) (defBody spointsin) (defScope spointsin) .none kV6 dc6 pm6 an6 cd6 ct6),sl6⟩) (c6:PySem.W.codeIn K cd6 "points_in"=true) (k6:PySem.W.keepIn K (.ref f6)=true)
  (a7:PySem.W.nsIn K mainGlobals "own_of"=some (some (.ref f7))) (l7:K.lookup f7=some ⟨oc7,od7,.func (PySem.W.fnOf "own_of" "own_of" (defArgs sownof) (defBody sownof) (defScope sownof) .none kV7 dc7 pm7 an7 cd7 ct7),sl7⟩) (c7:PySem.W.codeIn K cd7 "own_of"=true) (k7:PySem.W.keepIn K (.ref f7)=true)
  (a8:PySem.W.nsIn K mainGlobals "own_points"=some (some (.ref f8))) (l8:K.lookup f8=some ⟨oc8,od8,.func (PySem.W.fnOf "own_points" "own_points" (defArgs sownpoints) (defBody sownpoints) (defScope sownpoints) .none kV8 dc8 pm8 an8 cd8 ct8),sl8⟩) (c8:PySem.W.codeIn K cd8 "own_points"=true) (k8:PySem.W.keepIn K (.ref f8)=true)
  (a9:PySem.W.nsIn K mainGlobals "is_at_rest"=some (some (.ref f9))) (l9:K.lookup f9=some ⟨oc9,od9,.func (PySem.W.fnOf "is_at_rest" "is_at_rest" (defArgs sisatrest) (defBody sisatrest) (defScope sisatrest) .none kV9 dc9 pm9 an9 cd9 ct9),sl9⟩) (c9:PySem.W.codeIn K cd9 "is_at_rest"=true) (k9:PySem.W.keepIn K (.ref f9)=true)
  (a10:PySem.W.nsIn K mainGlobals "one_sided"=some (some (.ref f10))) (l10:K.lookup f10=some ⟨oc10,od10,.func (PySem.W.fnOf "one_sided" "one_sided" (defArgs sonesided) (defBody sonesided) (defScope sonesided) .none kV10 dc10 pm10 an10 cd10 ct10),sl10⟩) (c10:PySem.W.codeIn K cd10 "one_sided"=true) (k10:PySem.W.keepIn K (.ref f10)=true)
  (a11:PySem.W.nsIn K mainGlobals "is_knot"=some (some (.ref f11))) (l11:K.lookup f11=some ⟨oc11,od11,.func (PySem.W.fnOf "is_knot" "is_knot" (defArgs sisknot) (defBody sisknot) (defScope sisknot) .none kV11 dc11 pm11 an11 cd11 ct11),sl11⟩) (c11:PySem.W.codeIn K cd11 "is_knot"=true) (k11:PySem.W.keepIn K (.ref f11)=true)
  (a12:PySem.W.nsIn K mainGlobals "knots_of"=some (some (.ref f12))) (l12:K.lookup f12=some ⟨oc12,od12,.func (PySem.W.fnOf "knots_of" "knots_of" (defArgs sknotsof) (defBody sknotsof) (defScope sknotsof) .none kV12 dc12 pm12 an12 cd12 ct12),sl12⟩) (c12:PySem.W.codeIn K cd12 "knots_of"=true) (k12:PySem.W.keepIn K (.ref f12)=true)
  (a13:PySem.W.nsIn K mainGlobals "_law_deal"=some (some (.ref f13))) (l13:K.lookup f13=some ⟨oc13,od13,.func (PySem.W.fnOf "_law_deal" "_law_deal" (defArgs sLdeal) (defBody sLdeal) (defScope sLdeal) .none kV13 dc13 pm13 an13 cd13 ct13),sl13⟩) (c13:PySem.W.codeIn K cd13 "_law_deal"=true) (k13:PySem.W.keepIn K (.ref f13)=true)
  (a14:PySem.W.nsIn K mainGlobals "_law_draw"=some (some (.ref f14))) (l14:K.lookup f14=some ⟨oc14,od14,.func (PySem.W.fnOf "_law_draw" "_law_draw" (defArgs sLdraw) (defBody sLdraw) (defScope sLdraw) .none kV14 dc14 pm14 an14 cd14 ct14),sl14⟩) (c14:PySem.W.codeIn K cd14 "_law_draw"=true) (k14:PySem.W.keepIn K (.ref f14)=true)
  (a15:PySem.W.nsIn K mainGlobals "_law_farther"=some (some (.ref f15))) (l15:K.lookup f15=some ⟨oc15,od15,.func (PySem.W.fnOf "_law_farther" "_law_farther" (defArgs sLfarther) (defBody sLfarther) (defScope sLfarther) .none kV15 dc15 pm15 an15 cd15 ct15),sl15⟩) (c15:PySem.W.codeIn K cd15 "_law_farther"=true) (k15:PySem.W.keepIn K (.ref f15)=true)
  (a16:PySem.W.nsIn K mainGlobals "_law_put_in"=some (some (.ref f16))) (l16:K.lookup f16=some ⟨oc16,od16,.func (PySem.W.fnOf "_law_put_in" "_law_put_in" (defArgs sLputin) (defBody sLputin) (defScope sLputin) .none kV16 dc16 pm16 an16 cd16 ct16),sl16⟩) (c16:PySem.W.codeIn K cd16 "_law_put_in"=true) (k16:PySem.W.keepIn K (.ref f16)=true)
  (a17:PySem.W.nsIn K mainGlobals "_law_block"=some (some (.ref f17))) (l17:K.lookup f17=some ⟨oc17,od17,.func (PySem.W.fnOf "_law_block" "_law_block" (defArgs sLblock) (defBody sLblock) (defScope sLblock) .none kV17 dc17 pm17 an17 cd17 ct17),sl17⟩) (c17:PySem.W.codeIn K cd17 "_law_block"=true) (k17:PySem.W.keepIn K (.ref f17)=true)
  (a18:PySem.W.nsIn K mainGlobals "_law_numbers"=some (some (.ref f18))) (l18:K.lookup f18=some ⟨oc18,od18,.func (PySem.W.fnOf "_law_numbers" "_law_numbers" (defArgs sLnumbers) (defBody sLnumbers) (defScope sLnumbers) .none kV18 dc18 pm18 an18 cd18 ct18),sl18⟩) (c18:PySem.W.codeIn K cd18 "_law_numbers"=true) (k18:PySem.W.keepIn K (.ref f18)=true)
  (a19:PySem.W.nsIn K mainGlobals "_law_knotty"=some (some (.ref f19))) (l19:K.lookup f19=some ⟨oc19,od19,.func (PySem.W.fnOf "_law_knotty" "_law_knotty" (defArgs sLknotty) (defBody sLknotty) (defScope sLknotty) .none kV19 dc19 pm19 an19 cd19 ct19),sl19⟩) (c19:PySem.W.codeIn K cd19 "_law_knotty"=true) (k19:PySem.W.keepIn K (.ref f19)=true)
  (a20:PySem.W.nsIn K mainGlobals "_law_is_span"=some (some (.ref f20))) (l20:K.lookup f20=some ⟨oc20,od20,.func (PySem.W.fnOf "_law_is_span" "_law_is_span" (defArgs sLisspan) (defBody sLisspan) (defScope sLisspan) .none kV20 dc20 pm20 an20 cd20 ct20),sl20⟩) (c20:PySem.W.codeIn K cd20 "_law_is_span"=true) (k20:PySem.W.keepIn K (.ref f20)=true)
  (a21:PySem.W.nsIn K mainGlobals "_law_wholes"=some (some (.ref f21))) (l21:K.lookup f21=some ⟨oc21,od21,.func (PySem.W.fnOf "_law_wholes" "_law_wholes" (defArgs sLwholes) (defBody sLwholes) (defScope sLwholes) .none kV21 dc21 pm21 an21 cd21 ct21),sl21⟩) (c21:PySem.W.codeIn K cd21 "_law_wholes"=true) (k21:PySem.W.keepIn K (.ref f21)=true)
  (a22:PySem.W.nsIn K mainGlobals "_law_is_knot"=some (some (.ref f22))) (l22:K.lookup f22=some ⟨oc22,od22,.func (PySem.W.fnOf "_law_is_knot" "_law_is_knot" (defArgs sLisknot) (defBody sLisknot) (defScope sLisknot) .none kV22 dc22 pm22 an22 cd22 ct22),sl22⟩) (c22:PySem.W.codeIn K cd22 "_law_is_knot"=true) (k22:PySem.W.keepIn K (.ref f22)=true)
  (a23:PySem.W.nsIn K mainGlobals "_law_right"=some (some (.ref f23))) (l23:K.lookup f23=some ⟨oc23,od23,.func (PySem.W.fnOf "_law_right" "_law_right" (defArgs sLright) (defBody sLright) (defScope sLright) .none kV23 dc23 pm23 an23 cd23 ct23),sl23⟩) (c23:PySem.W.codeIn K cd23 "_law_right"=true) (k23:PySem.W.keepIn K (.ref f23)=true)
  (a24:PySem.W.nsIn K mainGlobals "_law_turned"=some (some (.ref f24))) (l24:K.lookup f24=some ⟨oc24,od24,.func (PySem.W.fnOf "_law_turned" "_law_turned" (defArgs sLturned) (defBody sLturned) (defScope sLturned) .none kV24 dc24 pm24 an24 cd24 ct24),sl24⟩) (c24:PySem.W.codeIn K cd24 "_law_turned"=true) (k24:PySem.W.keepIn K (.ref f24)=true)
  (a25:PySem.W.nsIn K mainGlobals "law"=some (some (.ref f25))) (l25:K.lookup f25=some ⟨oc25,od25,.func (PySem.W.fnOf "law" "law" (defArgs slaw) (defBody slaw) (defScope slaw) .none kV25 dc25 pm25 an25 cd25 ct25),sl25⟩) (c25:PySem.W.codeIn K cd25 "law"=true) (k25:PySem.W.keepIn K (.ref f25)=true)
  (z_abs:PySem.W.nsIn K mainGlobals "abs"=some none) (z_all:PySem.W.nsIn K mainGlobals "all"=some none) (z_any:PySem.W.nsIn K mainGlobals "any"=some none) (z_int:PySem.W.nsIn K mainGlobals "int"=some none) (z_isinstance:PySem.W.nsIn K mainGlobals "isinstance"=some none) (z_len:PySem.W.nsIn K mainGlobals "len"=some none) (z_list:PySem.W.nsIn K mainGlobals "list"=some none) (z_max:PySem.W.nsIn K mainGlobals "max"=some none) (z_min:PySem.W.nsIn K mainGlobals "min"=some none) (z_range:PySem.W.nsIn K mainGlobals "range"=some none) (z_reversed:PySem.W.nsIn K mainGlobals "reversed"=some none) (z_sorted:PySem.W.nsIn K mainGlobals "sorted"=some none) (z_sum:PySem.W.nsIn K mainGlobals "sum"=some none) (z_tuple:PySem.W.nsIn K mainGlobals "tuple"=some none) :
  ∃fd:FuncData,(∀(s:Shared) (v:Value),BindsTo s fd ⟨[v],[]⟩ [("_law_script",v)])/\∀base:Heap,K.In base->base.Ns mainGlobals mg->FnOk l.prog w K mg base CX0 7 fa fd ["_law_script"] (spLaw K):=by
 have e:=hfa.symm.trans (PySem.W.mg_of X G a25);cases e;have F1:=fun_mk (st:=sspansfrom) l1 c1 k1;have F2:=fun_mk (st:=sspansof) l2 c2 k2;have F3:=fun_mk (st:=sfallsapart) l3 c3 k3;have F4:=fun_mk (st:=swholespans) l4 c4 k4;have F5:=fun_mk (st:=swithin) l5 c5 k5;have F6:=fun_mk (st:=spointsin) l6 c6 k6;have F7:=fun_mk (st:=sownof) l7 c7 k7;have F8:=fun_mk (st:=sownpoints) l8 c8 k8;have F9:=fun_mk (st:=sisatrest) l9 c9 k9;have F10:=fun_mk (st:=sonesided) l10 c10 k10;have F11:=fun_mk (st:=sisknot) l11 c11 k11;have F12:=fun_mk (st:=sknotsof) l12 c12 k12;have F13:=fun_mk (st:=sLdeal) l13 c13 k13;have F14:=fun_mk (st:=sLdraw) l14 c14 k14;have F15:=fun_mk (st:=sLfarther) l15 c15 k15;have F16:=fun_mk (st:=sLputin) l16 c16 k16;have F17:=fun_mk (st:=sLblock) l17 c17 k17;have F18:=fun_mk (st:=sLnumbers) l18 c18 k18;have F19:=fun_mk (st:=sLknotty) l19 c19 k19;have F20:=fun_mk (st:=sLisspan) l20 c20 k20;have F21:=fun_mk (st:=sLwholes) l21 c21 k21;have F22:=fun_mk (st:=sLisknot) l22 c22 k22;have F23:=fun_mk (st:=sLright) l23 c23 k23;have F24:=fun_mk (st:=sLturned) l24 c24 k24;have F25:=fun_mk (st:=slaw) l25 c25 k25;have b1:=F1.binds (ps:=["numbers","begin"]) fun _ _ _ _ _ _ us hl=>match us,hl with|[_,_],_=>rfl
 have b2:=F2.binds (ps:=["numbers"]) fun _ _ _ _ _ _ us hl=>match us,hl with|[_],_=>rfl
 have b3:=F3.binds (ps:=["span","spans"]) fun _ _ _ _ _ _ us hl=>match us,hl with|[_,_],_=>rfl
 have b4:=F4.binds (ps:=["numbers"]) fun _ _ _ _ _ _ us hl=>match us,hl with|[_],_=>rfl
 have b5:=F5.binds (ps:=["span","other"]) fun _ _ _ _ _ _ us hl=>match us,hl with|[_,_],_=>rfl
 have b6:=F6.binds (ps:=["span"]) fun _ _ _ _ _ _ us hl=>match us,hl with|[_],_=>rfl
 have b7:=F7.binds (ps:=["span","wholes"]) fun _ _ _ _ _ _ us hl=>match us,hl with|[_,_],_=>rfl
 have b8:=F8.binds (ps:=["numbers"]) fun _ _ _ _ _ _ us hl=>match us,hl with|[_],_=>rfl
 have b9:=F9.binds (ps:=["numbers","point"]) fun _ _ _ _ _ _ us hl=>match us,hl with|[_,_],_=>rfl
 have b10:=F10.binds (ps:=["numbers","points"]) fun _ _ _ _ _ _ us hl=>match us,hl with|[_,_],_=>rfl
 have b11:=F11.binds (ps:=["numbers","points"]) fun _ _ _ _ _ _ us hl=>match us,hl with|[_,_],_=>rfl
 have b12:=F12.binds (ps:=["numbers"]) fun _ _ _ _ _ _ us hl=>match us,hl with|[_],_=>rfl
 have b13:=F13.binds (ps:=["_law_script","_law_at"]) fun _ _ _ _ _ _ us hl=>match us,hl with|[_,_],_=>rfl
 have b14:=F14.binds (ps:=["_law_deal_here","_law_many"]) fun _ _ _ _ _ _ us hl=>match us,hl with|[_,_],_=>rfl
 have b15:=F15.binds (ps:=["_law_number","_law_by"]) fun _ _ _ _ _ _ us hl=>match us,hl with|[_,_],_=>rfl
 have b16:=F16.binds (ps:=["_law_numbers_here","_law_at","_law_block_here"]) fun _ _ _ _ _ _ us hl=>match us,hl with|[_,_,_],_=>rfl
 have b17:=F17.binds (ps:=["_law_deal_here","_law_most"]) fun _ _ _ _ _ _ us hl=>match us,hl with|[_,_],_=>rfl
 have b18:=F18.binds (ps:=["_law_deal_here","_law_most"]) fun _ _ _ _ _ _ us hl=>match us,hl with|[_,_],_=>rfl
 have b19:=F19.binds (ps:=["_law_deal_here"]) fun _ _ _ _ _ _ us hl=>match us,hl with|[_],_=>rfl
 have b20:=F20.binds (ps:=["_law_numbers_here","_law_s","_law_e"]) fun _ _ _ _ _ _ us hl=>match us,hl with|[_,_,_],_=>rfl
 have b21:=F21.binds (ps:=["_law_numbers_here"]) fun _ _ _ _ _ _ us hl=>match us,hl with|[_],_=>rfl
 have b22:=F22.binds (ps:=["_law_numbers_here","_law_wholes_here","_law_span"]) fun _ _ _ _ _ _ us hl=>match us,hl with|[_,_,_],_=>rfl
 have b23:=F23.binds (ps:=["_law_numbers_here"]) fun _ _ _ _ _ _ us hl=>match us,hl with|[_],_=>rfl
 have b24:=F24.binds (ps:=["_law_numbers_here","_law_i","_law_j"]) fun _ _ _ _ _ _ us hl=>match us,hl with|[_,_,_],_=>rfl
 have b25:=F25.binds (ps:=["_law_script"]) fun _ _ _ _ _ _ us hl=>match us,hl with|[_],_=>rfl
 have M:Md mg:=⟨PySem.W.mg_none_of X G z_abs,PySem.W.mg_none_of X G z_all,PySem.W.mg_none_of X G z_any,PySem.W.mg_none_of X G z_int,PySem.W.mg_none_of X G z_isinstance,PySem.W.mg_none_of X G z_len,PySem.W.mg_none_of X G z_list,PySem.W.mg_none_of X G z_max,PySem.W.mg_none_of X G z_min,PySem.W.mg_none_of X G z_range,PySem.W.mg_none_of X G z_reversed,PySem.W.mg_none_of X G z_sorted,PySem.W.mg_none_of X G z_sum,PySem.W.mg_none_of X G z_tuple⟩;refine⟨PySem.W.fnOf "law" "law" (defArgs slaw) (defBody slaw) (defScope slaw) .none kV25 dc25 pm25 an25 cd25 ct25,fun s v=>.of_eq rfl,fun base _ _=>?_⟩;have c_spans_from:Cal l.prog w K mg base "spans_from" 1 ["numbers","begin"] (spV K G_spans_from):=⟨_,_,ok_spans_from F1 M ,PySem.W.mg_of X G a1,k1,b1⟩;have c_spans_of:Cal l.prog w K mg base "spans_of" 2 ["numbers"] (spV K G_spans_of):=⟨_,_,ok_spans_of F2 M c_spans_from,PySem.W.mg_of X G a2,k2,b2⟩;have c_falls_apart:Cal l.prog w K mg base "falls_apart" 1 ["span","spans"] (spV K G_falls_apart):=⟨_,_,ok_falls_apart F3 M ,PySem.W.mg_of X G a3,k3,b3⟩;have c_whole_spans:Cal l.prog w K mg base "whole_spans" 3 ["numbers"] (spV K G_whole_spans):=⟨_,_,ok_whole_spans F4 M c_spans_of c_falls_apart,PySem.W.mg_of X G a4,k4,b4⟩;have c_within:Cal l.prog w K mg base "within" 1 ["span","other"] (spV K G_within):=⟨_,_,ok_within F5 M ,PySem.W.mg_of X G a5,k5,b5⟩;have c_points_in:Cal l.prog w K mg base "points_in" 1 ["span"] (spV K G_points_in):=⟨_,_,ok_points_in F6 M ,PySem.W.mg_of X G a6,k6,b6⟩;have c_own_of:Cal l.prog w K mg base "own_of" 2 ["span","wholes"] (spV K G_own_of):=⟨_,_,ok_own_of F7 M c_within c_points_in,PySem.W.mg_of X G a7,k7,b7⟩;have c_own_points:Cal l.prog w K mg base "own_points" 4 ["numbers"] (spV K G_own_points):=⟨_,_,ok_own_points F8 M c_whole_spans c_own_of,PySem.W.mg_of X G a8,k8,b8⟩;have c_is_at_rest:Cal l.prog w K mg base "is_at_rest" 1 ["numbers","point"] (spV K G_is_at_rest):=⟨_,_,ok_is_at_rest F9 M ,PySem.W.mg_of X G a9,k9,b9⟩;have c_one_sided:Cal l.prog w K mg base "one_sided" 1 ["numbers","points"] (spV K G_one_sided):=⟨_,_,ok_one_sided F10 M ,PySem.W.mg_of X G a10,k10,b10⟩;have c_is_knot:Cal l.prog w K mg base "is_knot" 2 ["numbers","points"] (spV K G_is_knot):=⟨_,_,ok_is_knot F11 M c_is_at_rest c_one_sided,PySem.W.mg_of X G a11,k11,b11⟩;have c_knots_of:Cal l.prog w K mg base "knots_of" 5 ["numbers"] (spV K G_knots_of):=⟨_,_,ok_knots_of F12 M c_own_points c_is_knot,PySem.W.mg_of X G a12,k12,b12⟩;have c_law_deal:Cal l.prog w K mg base "_law_deal" 1 ["_law_script","_law_at"] (spV K G_law_deal):=⟨_,_,ok_law_deal F13 M ,PySem.W.mg_of X G a13,k13,b13⟩;have c_law_draw:Cal l.prog w K mg base "_law_draw" 1 ["_law_deal_here","_law_many"] (spIO K G_law_draw):=⟨_,_,ok_law_draw F14 M ,PySem.W.mg_of X G a14,k14,b14⟩;have c_law_farther:Cal l.prog w K mg base "_law_farther" 1 ["_law_number","_law_by"] (spV K G_law_farther):=⟨_,_,ok_law_farther F15 M ,PySem.W.mg_of X G a15,k15,b15⟩;have c_law_put_in:Cal l.prog w K mg base "_law_put_in" 2 ["_law_numbers_here","_law_at","_law_block_here"] (spV K G_law_put_in):=⟨_,_,ok_law_put_in F16 M c_law_farther,PySem.W.mg_of X G a16,k16,b16⟩
 have c_law_block:Cal l.prog w K mg base "_law_block" 2 ["_law_deal_here","_law_most"] (spIO K G_law_block):=⟨_,_,ok_law_block F17 M c_law_draw,PySem.W.mg_of X G a17,k17,b17⟩;have c_law_numbers:Cal l.prog w K mg base "_law_numbers" 3 ["_law_deal_here","_law_most"] (spIO K G_law_numbers):=⟨_,_,ok_law_numbers F18 M c_law_draw c_law_put_in c_law_block,PySem.W.mg_of X G a18,k18,b18⟩;have c_law_knotty:Cal l.prog w K mg base "_law_knotty" 3 ["_law_deal_here"] (spIO K G_law_knotty):=⟨_,_,ok_law_knotty F19 M c_law_draw c_law_put_in,PySem.W.mg_of X G a19,k19,b19⟩;have c_law_is_span:Cal l.prog w K mg base "_law_is_span" 1 ["_law_numbers_here","_law_s","_law_e"] (spV K G_law_is_span):=⟨_,_,ok_law_is_span F20 M ,PySem.W.mg_of X G a20,k20,b20⟩;have c_law_wholes:Cal l.prog w K mg base "_law_wholes" 2 ["_law_numbers_here"] (spV K G_law_wholes):=⟨_,_,ok_law_wholes F21 M c_law_is_span,PySem.W.mg_of X G a21,k21,b21⟩;have c_law_is_knot:Cal l.prog w K mg base "_law_is_knot" 1 ["_law_numbers_here","_law_wholes_here","_law_span"] (spV K G_law_is_knot):=⟨_,_,ok_law_is_knot F22 M ,PySem.W.mg_of X G a22,k22,b22⟩;have c_law_right:Cal l.prog w K mg base "_law_right" 6 ["_law_numbers_here"] (spV K G_law_right):=⟨_,_,ok_law_right F23 M c_knots_of c_law_wholes c_law_is_knot,PySem.W.mg_of X G a23,k23,b23⟩;have c_law_turned:Cal l.prog w K mg base "_law_turned" 1 ["_law_numbers_here","_law_i","_law_j"] (spV K G_law_turned):=⟨_,_,ok_law_turned F24 M ,PySem.W.mg_of X G a24,k24,b24⟩;exact(ok_law F25 M c_law_deal c_law_draw c_law_numbers c_law_knotty c_law_right c_law_turned).imp fun vs H Q E h=>law_imp h
theorem walk {l:PySem.W.OpenLaw} {q:Program} {loose:List Str} {XP:(Str->Option Value)->Heap->Prop} {YP:World->Heap->Prop} {d:DefRec} {K:Params->PySem.W.Frag} (hn:l.most=some 63) (hdf:d.params.defaults=[])
  (hY:∀(w:World) (h:Heap),YP w h->(K w.params).In h)
  (F:∀(w:World) (mg:Str->Option Value) (fa:Addr) (h:Heap),(K w.params).In h->h.Ns mainGlobals mg->mg d.name=some (.ref fa) ->
   ∃fd:FuncData,(∀(s:Shared) (u:Value),BindsTo s fd ⟨[u],[]⟩ [("_law_script",u)])/\∀base:Heap,(K w.params).In base->base.Ns mainGlobals mg->FnOk l.prog w (K w.params) mg base CX0 7 fa fd ["_law_script"] (spLaw (K w.params))) :
  PySem.W.WalkO q loose XP YP l.row.toRowW d [] (fun f vs=>PySem.call f vs) :=
 L2.walk_of (n:=63) (k:=7) (x:="_law_script") (CX:=fun _=>CX0) (sp:=fun w=>spLaw (K w.params)) hn (by decide) hdf ⟨rfl,by decide,by decide⟩ hY F (fun _ _ a ns hl _ hS=>⟨a,ns,rfl,hS,hl,fun _=>rfl⟩) fun _ _ _ _ _ z=>z
end K43
open PySem PySem.W PyProof.Rows
set_option maxRecDepth 100000 in
set_option maxHeartbeats 0 in
theorem PySem.Challenge.cw_strandwright_k43_knots_holds : PySem.Challenge.rw_strandwright_k43_knots.Holds := by
 w_on;o_law;k_head;(case hw=>w_witness2)
 k_fill
 refine K43.walk (l:=PySem.Challenge.rw_strandwright_k43_knots) rfl rfl (fun w h Y=>PySem.W.kIn_of Y) ?F
 case F =>
  intro w mg fa h KX G hmg;refine' K43.all_mk KX G hmg ?a1 ?l1 ?c1 ?k1 ?a2 ?l2 ?c2 ?k2 ?a3 ?l3 ?c3 ?k3 ?a4 ?l4 ?c4 ?k4 ?a5 ?l5 ?c5 ?k5 ?a6 ?l6 ?c6 ?k6 ?a7 ?l7 ?c7 ?k7 ?a8 ?l8 ?c8 ?k8 ?a9 ?l9 ?c9 ?k9 ?a10 ?l10 ?c10 ?k10 ?a11 ?l11 ?c11 ?k11 ?a12 ?l12 ?c12 ?k12 ?a13 ?l13 ?c13 ?k13 ?a14 ?l14 ?c14 ?k14 ?a15 ?l15 ?c15 ?k15 ?a16 ?l16 ?c16 ?k16 ?a17 ?l17 ?c17 ?k17 ?a18 ?l18 ?c18 ?k18 ?a19 ?l19 ?c19 ?k19 ?a20 ?l20 ?c20 ?k20 ?a21 ?l21 ?c21 ?k21 ?a22 ?l22 ?c22 ?k22 ?a23 ?l23 ?c23 ?k23 ?a24 ?l24 ?c24 ?k24 ?a25 ?l25 ?c25 ?k25 ?z_abs ?z_all ?z_any ?z_int ?z_isinstance ?z_len ?z_list ?z_max ?z_min ?z_range ?z_reversed ?z_sorted ?z_sum ?z_tuple
  (case a1=>k_is)
  (case l1=>k_is)
  (case c1=>k_is)
  (case k1=>k_is)
  (case a2=>k_is)
  (case l2=>k_is)
  (case c2=>k_is)
  (case k2=>k_is)
  (case a3=>k_is)
  (case l3=>k_is)
  (case c3=>k_is)
  (case k3=>k_is)
  (case a4=>k_is)
  (case l4=>k_is)
  (case c4=>k_is)
  (case k4=>k_is)
  (case a5=>k_is)
  (case l5=>k_is)
  (case c5=>k_is)
  (case k5=>k_is)
  (case a6=>k_is)
  (case l6=>k_is)
  (case c6=>k_is)
  (case k6=>k_is)
  (case a7=>k_is)
  (case l7=>k_is)
  (case c7=>k_is)
  (case k7=>k_is)
  (case a8=>k_is)
  (case l8=>k_is)
  (case c8=>k_is)
  (case k8=>k_is)
  (case a9=>k_is)
  (case l9=>k_is)
  (case c9=>k_is)
  (case k9=>k_is)
  (case a10=>k_is)
  (case l10=>k_is)
  (case c10=>k_is)
  (case k10=>k_is)
  (case a11=>k_is)
  (case l11=>k_is)
  (case c11=>k_is)
  (case k11=>k_is)
  (case a12=>k_is)
  (case l12=>k_is)
  (case c12=>k_is)
  (case k12=>k_is)
  (case a13=>k_is)
  (case l13=>k_is)
  (case c13=>k_is)
  (case k13=>k_is)
  (case a14=>k_is)
  (case l14=>k_is)
  (case c14=>k_is)
  (case k14=>k_is)
  (case a15=>k_is)
  (case l15=>k_is)
  (case c15=>k_is)
  (case k15=>k_is)
  (case a16=>k_is)
  (case l16=>k_is)
  (case c16=>k_is)
  (case k16=>k_is)
  (case a17=>k_is)
  (case l17=>k_is)
  (case c17=>k_is)
  (case k17=>k_is)
  (case a18=>k_is)
  (case l18=>k_is)
  (case c18=>k_is)
  (case k18=>k_is)
  (case a19=>k_is)
  (case l19=>k_is)
  (case c19=>k_is)
  (case k19=>k_is)
  (case a20=>k_is)
  (case l20=>k_is)
  (case c20=>k_is)
  (case k20=>k_is)
  (case a21=>k_is)
  (case l21=>k_is)
  (case c21=>k_is)
  (case k21=>k_is)
  (case a22=>k_is)
  (case l22=>k_is)
  (case c22=>k_is)
  (case k22=>k_is)
  (case a23=>k_is)
  (case l23=>k_is)
  (case c23=>k_is)
  (case k23=>k_is)
  (case a24=>k_is)
  (case l24=>k_is)
  (case c24=>k_is)
  (case k24=>k_is)
  (case a25=>k_is)
  (case l25=>k_is)
  (case c25=>k_is)
  (case k25=>k_is)
  (case z_abs=>k_is)
  (case z_all=>k_is)
  (case z_any=>k_is)
  (case z_int=>k_is)
  (case z_isinstance=>k_is)
  (case z_len=>k_is)
  (case z_list=>k_is)
  (case z_max=>k_is)
  (case z_min=>k_is)
  (case z_range=>k_is)
  (case z_reversed=>k_is)
  (case z_sorted=>k_is)
  (case z_sum=>k_is)
  (case z_tuple=>k_is)

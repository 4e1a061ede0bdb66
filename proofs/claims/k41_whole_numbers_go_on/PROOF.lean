import PyProof.Rows.All
import Wide.All
import OpenK.AllK
import Wide.FinOn
import Lean
import PyProof.EqAt
import PyProof.EqKinds
import PyProof.TupleCall
import PySem.Challenge.RW_queuehold_k41_whole_numbers_go_on
set_option Elab.async false
set_option linter.all false
set_option maxRecDepth 100000
section
-- CHANGE: your row's module here,as the last of these rows
namespace L2
open PySem PySem.Spec PyProof.Rows
abbrev Key:=Sum Int Str
def keyIs:Key->Value->Bool
 | .inl k,v=>Value.isInt k v
 | .inr x,v=>Value.isStrOf x v
def keyH (w:World):Key->Int
 | .inl k=>hashInt k
 | .inr x=>hashStr w x
theorem keyIs_shape:∀ {k:Key} {v:Value},keyIs k v=true->(∃ i t,k=Sum.inl i/\v=Value.int i t)\/(∃ x t,k=Sum.inr x/\v=Value.str x t)
 | .inl i,v,h=>by
  obtain⟨t,e⟩:=Value.isInt_shape (k:=i) (v:=v) h
  exact .inl ⟨i,t,rfl,e⟩
 | .inr x,v,h=>by
  obtain⟨t,e⟩:=Value.isStrOf_shape (x:=x) (v:=v) h
  exact .inr ⟨x,t,rfl,e⟩
theorem keyIs_int (i:Int) (t:Tok):keyIs (.inl i) (.int i t)=true:=by simp [keyIs,Value.isInt]
theorem keyIs_str (x:Str) (t:Tok):keyIs (.inr x) (.str x t)=true:=by simp [keyIs,Value.isStrOf]
theorem key_ll (a b:Int):decide ((Sum.inl a:Key)=Sum.inl b)=(a == b):=by
 by_cases e:a=b
 ·subst e; simp
 ·have h:¬ (Sum.inl a:Key)=Sum.inl b:=fun q=>e (Sum.inl.inj q)
  rw[decide_eq_false h]
  exact(beq_eq_false_iff_ne.mpr e).symm
theorem key_rr (a b:Str):decide ((Sum.inr a:Key)=Sum.inr b)=decide (a=b):=by
 by_cases e:a=b
 ·subst e; simp
 ·have h:¬ (Sum.inr a:Key)=Sum.inr b:=fun q=>e (Sum.inr.inj q)
  rw[decide_eq_false h,decide_eq_false e]
theorem key_lr (a:Int) (b:Str):decide ((Sum.inl a:Key)=Sum.inr b)=false:=decide_eq_false (fun q=>nomatch q)
theorem key_rl (a:Str) (b:Int):decide ((Sum.inr a:Key)=Sum.inl b)=false:=decide_eq_false (fun q=>nomatch q)
def mixKind (prog:Program) (w:World):PySem.KeyKind prog w Key where
 is:=keyIs
 hash:=keyH w
 inj:=fun v a b ha hb=>by
  rcases keyIs_shape ha with ⟨i,t,rfl,rfl⟩ | ⟨x,t,rfl,rfl⟩
  ·rcases keyIs_shape hb with ⟨j,u,rfl,e⟩ | ⟨y,u,rfl,e⟩
   ·injection e with e1 _; rw[e1]
   ·exact nomatch e
  ·rcases keyIs_shape hb with ⟨j,u,rfl,e⟩ | ⟨y,u,rfl,e⟩
   ·exact nomatch e
   ·injection e with e1 _; rw[e1]
 byValue:=fun k v h=>by
  rcases keyIs_shape h with ⟨i,t,rfl,rfl⟩ | ⟨x,t,rfl,rfl⟩ <;> rfl
 pyHash:=fun hv h=>by
  rcases keyIs_shape hv with ⟨i,t,rfl,rfl⟩ | ⟨x,t,rfl,rfl⟩
  ·exact wpAny_pyHash_int h
  ·exact wpAny_pyHash_str h
 eqBool:=fun hu hv h=>by
  rcases keyIs_shape hu with ⟨i,t,rfl,rfl⟩ | ⟨x,t,rfl,rfl⟩
  ·rcases keyIs_shape hv with ⟨j,u,rfl,rfl⟩ | ⟨y,u,rfl,rfl⟩
   ·rw[key_ll]at h; exact wpAny_eqBool_int h
   ·rw[key_lr]at h; exact SeqAt.EqAt.int_str i t y u _ _ _ _ h
  ·rcases keyIs_shape hv with ⟨j,u,rfl,rfl⟩ | ⟨y,u,rfl,rfl⟩
   ·rw[key_rl]at h; exact SeqAt.EqAt.str_int x t j u _ _ _ _ h
   ·rw[key_rr]at h; exact wpAny_eqBool_str h
 «strs»:=fun k x t v h=>by
  rcases keyIs_shape h with ⟨i,u,rfl,e⟩ | ⟨y,u,rfl,e⟩
  ·exact nomatch e
  ·injection e with e1 _
   subst e1
   cases v <;> rfl
theorem mixKind_int (prog:Program) (w:World) (i:Int) (t:Tok):(mixKind prog w).is (.inl i) (.int i t)=true:=keyIs_int i t
theorem mixKind_str (prog:Program) (w:World) (x:Str) (t:Tok):(mixKind prog w).is (.inr x) (.str x t)=true:=keyIs_str x t
end L2
namespace L2
open PySem PySem.Spec PyProof.Rows
inductive V where
 | non | bl (b:Bool) | int (i:Int) | str (x:Str) | byt (b:Array UInt8) | flt (b:UInt64) | ref (a:Addr) | ty (n:String)
 deriving DecidableEq
def RelV:V->Value->Prop
 | .non,u=>u=Value.none
 | .bl b,u=>u=Value.bool b
 | .int i,u=>∃ t,u=Value.int i t
 | .str x,u=>∃ t,u=Value.str x t
 | .byt b,u=>∃ t,u=Value.bytes b t
 | .flt b,u=>∃ t,u=Value.float b t
 | .ref a,u=>u=Value.ref a
 | .ty n,u=>u=Value.type n
abbrev Vals:List V->List Value->Prop:=Paired RelV
theorem Vals.length {xs:List V} {us:List Value} (r:Vals xs us):xs.length=us.length:=Paired.length r
theorem Vals.get:∀ {xs:List V} {us:List Value} {i:Nat} {x:V},Vals xs us->xs[i]? = some x->∃ u,us[i]? = some u/\RelV x u
 | _,_,_,_,.nil,e=>by simp at e
 | _,_,0,_,.cons r _,e=>by simp at e; subst e; exact⟨_,rfl,r⟩
 | _,_,i+1,x,.cons _ t,e=>by
  obtain⟨u,h1,h2⟩:=Vals.get (i:=i) (x:=x) t (by simpa using e)
  exact⟨u,by simpa using h1,h2⟩
theorem Vals.append:∀ {xs ys:List V} {us ws:List Value},Vals xs us->Vals ys ws->Vals (xs++ys) (us++ws)
 | _,_,_,_,.nil,s=>s
 | _,_,_,_,.cons r t,s=>.cons r (Vals.append t s)
theorem Vals.take:∀ {xs:List V} {us:List Value} (n:Nat),Vals xs us->Vals (xs.take n) (us.take n)
 | _,_,0,_=>.nil
 | _,_,_+1,.nil=>.nil
 | _,_,n+1,.cons r t=>.cons r (Vals.take n t)
theorem Vals.drop:∀ {xs:List V} {us:List Value} (n:Nat),Vals xs us->Vals (xs.drop n) (us.drop n)
 | _,_,0,r=>r
 | _,_,_+1,.nil=>.nil
 | _,_,n+1,.cons _ t=>Vals.drop n t
def RelO:Option V->Option Value->Prop
 | some v,some u=>RelV v u
 | none,none=>True
 | _,_=>False
def KV {κ : Type}:List (κ × V)->List (κ × Value)->Prop:=Paired fun(p:κ × V) (q:κ × Value)=>p.1=q.1/\RelV p.2 q.2
def kV:Key->V
 | .inl i=>.int i
 | .inr x=>.str x
inductive HO where
  | lst (xs:List V)
  | tup (xs:List V)
  | dK (kvs:List (Key × V)) | dT (kvs:List (List Key × V))
  | set (S:Int->Bool) (n:Nat)
  | ins (C dx:Addr) (fs:List (Str × V))
  | own (x:Addr)
  | xd (fs:List (Str × V))
  | met (f x:Addr)
  | rng (lo hi:Int)
  | frz (o:Obj) (u:HO)
  | tbl (ps:Array Value)
  | ext (φ : Heap->Prop)
abbrev Hp:=Addr->Option HO
def upd (H:Hp) (a:Addr) (o:HO):Hp:=fun b=>if b=a then some o else H b
theorem upd_same {H:Hp} {a:Addr} {o:HO}:upd H a o a=some o:=by unfold upd; rw[if_pos rfl]
theorem upd_ne {H:Hp} {a b:Addr} {o:HO} (h:b≠a):upd H a o b=H b:=by unfold upd; rw[if_neg h]
theorem ne_of {H:Hp} {a b:Addr} {o u:HO} (h:H a=some o) (h':H b=some u) (d:o≠u):a≠b:=by
 intro e; subst e; rw[h]at h'; exact d (Option.some.inj h')
theorem ne_of_none {H:Hp} {a b:Addr} {o:HO} (h:H a=some o) (h':H b=none):a≠b:=by
 intro e; subst e; rw[h]at h'; cases h'
section
variable (P:Program) (w:World)
def ObjOk (H:Hp) (h:Heap) (a:Addr):HO->Prop
 | .lst xs=>xs.length<=sizeLine/\∃ (its:List Value) (n:Nat),Vals xs its/\h.get? a=some { cls:=.type "list",data:=.seq its.toArray n }
 | .tup xs=>xs.length<=sizeLine/\∃ its:List Value,Vals xs its/\IsTup h a its.toArray
 | .dK kvs=>kvs.length<=sizeLine/\(a == sysModules)=false/\∃ vs,KV kvs vs/\h.DictOf (mixKind P w) a vs
 | .dT kvs=>kvs.length<=sizeLine/\(a == sysModules)=false/\∃ xs:List (List Key × Addr × Value),
   Paired (fun(p:List Key × V) (q:List Key × Addr × Value)=>p.1=q.1/\H q.2.1=some (.tup (p.1.map kV))/\RelV p.2 q.2.2) kvs xs/\
   ∃ o es ep,h.get? a=some o/\o.ExactDict/\o.data = .dict es ep/\es.toList=xs.map (entryOfKey (tupleKind (mixKind P w)))/\(xs.map (·.1)).Nodup
 | .set S n=>h.SetOf (intKind P w) a S n
 | .ins C dx fs=>H dx=some (.own a)/\fs.length<=1000/\dx≠a/\h.get? a=some (PySem.W.instObj C dx)/\
   ∃ mA,h.Ns1 dx mA/\(∀ f,RelO (fs.lookup f) (mA f))/\PySem.Within mA (fs.map (·.1))
 | .own _=>∃ o,h.get? a=some o
 | .xd fs=>∃ mA,h.Ns1 a mA/\∀ f,RelO (fs.lookup f) (mA f)
 | .rng lo hi=>∃ t u v,h.get? a=some { cls:=.type "range",data:=.fields #[.int lo t,.int hi u,.int 1 v] }
 | .frz o u=>h.get? a=some o/\ObjOk H h a u
 | .tbl ps=>h.get? a=some { cls:=.none,data:=.fields ps }
 | .met f x=>h.get? a=some (PySem.W.methodObj (.ref f) (.ref x))
 | .ext φ=>φ h/\(∃ o,h.get? a=some o)/\∀ h1 h2:Heap,φ h1->(∀ o,h1.get? a=some o->h2.get? a=some o)->φ h2
def HOk (H:Hp) (h:Heap):Prop:=∀ a o,H a=some o->ObjOk P w H h a o
end
section
variable {P:Program} {w:World} {H H':Hp} {h h':Heap} {a:Addr} {o:HO}
theorem ObjOk.lt (x:ObjOk P w H h a o):a<h.objs.size:=by
 cases o with
 | lst xs=>obtain⟨_,_,_,_,e⟩:=x; exact Heap.lt_size e
 | tup xs=>obtain⟨_,_,_,p⟩:=x; exact p.lt
 | dK kvs=>obtain⟨_,_,_,_,o,_,_,e,_⟩:=x; exact Heap.lt_size e
 | dT kvs=>obtain⟨_,_,_,_,o,_,_,e,_⟩:=x; exact Heap.lt_size e
 | set S n=>obtain⟨o,_,_,_,e,_⟩:=x; exact Heap.lt_size e
 | ins C dx fs=>obtain⟨_,_,_,e,_⟩:=x; exact Heap.lt_size e
 | own y=>obtain⟨_,e⟩:=x; exact Heap.lt_size e
 | xd fs=>obtain⟨_,⟨_,_,_,e,_⟩,_⟩:=x; exact Heap.lt_size e
 | rng lo hi=>obtain⟨_,_,_,e⟩:=x; exact Heap.lt_size e
 | frz ob u=>obtain⟨e,_⟩:=x; exact Heap.lt_size e
 | tbl ps=>exact Heap.lt_size (show h.get? a=some _ from x)
 | met f y=>exact Heap.lt_size (show h.get? a=some _ from x)
 | ext φ=>obtain⟨_,⟨_,e⟩,_⟩:=x; exact Heap.lt_size e
theorem Paired.mapP {α β : Type} {F G:α->β->Prop}:∀ {l₁ : List α} {l₂ : List β},Paired F l₁ l₂->(∀ a b,F a b->G a b)->Paired G l₁ l₂
 | _,_,.nil,_=>.nil
 | _,_,.cons r t,f=>.cons (f _ _ r) (Paired.mapP t f)
theorem ObjOk.stay (x:ObjOk P w H h a o) (k:∀ b u,(b=a\/H b=some (.own a))->h.get? b=some u->h'.get? b=some u)
  (ho:∀ b,H b=some (.own a)->H' b=some (.own a)) (ht:∀ b xs,H b=some (.tup xs)->H' b=some (.tup xs)):ObjOk P w H' h' a o:=by
 induction o with
 | lst xs=>obtain⟨z,its,n,r,e⟩:=x; exact⟨z,its,n,r,k _ _ (.inl rfl) e⟩
 | tup xs=>obtain⟨z,its,r,ob,e,c⟩:=x; exact⟨z,its,r,ob,k _ _ (.inl rfl) e,c⟩
 | dK kvs=>obtain⟨z,y,vs,r,ob,es,ep,e,c⟩:=x; exact⟨z,y,vs,r,ob,es,ep,k _ _ (.inl rfl) e,c⟩
 | dT kvs=>
  obtain⟨z,y,xs,r,ob,es,ep,e,c⟩:=x
  exact⟨z,y,xs,Paired.mapP r fun p q z=>⟨z.1,ht _ _ z.2.1,z.2.2⟩,ob,es,ep,k _ _ (.inl rfl) e,c⟩
 | set S n=>obtain⟨ob,es,ep,t,e,c⟩:=x; exact⟨ob,es,ep,t,k _ _ (.inl rfl) e,c⟩
 | ins C dx fs=>
  obtain⟨d,z,ne,e,mA,⟨od,es,ep,e2,c⟩,r⟩:=x
  exact⟨ho _ d,z,ne,k _ _ (.inl rfl) e,mA,⟨od,es,ep,k _ _ (.inr d) e2,c⟩,r⟩
 | own y=>obtain⟨ob,e⟩:=x; exact⟨ob,k _ _ (.inl rfl) e⟩
 | xd fs=>obtain⟨mA,⟨od,es,ep,e,c⟩,r⟩:=x; exact⟨mA,⟨od,es,ep,k _ _ (.inl rfl) e,c⟩,r⟩
 | rng lo hi=>obtain⟨t,u,v,e⟩:=x; exact⟨t,u,v,k _ _ (.inl rfl) e⟩
 | frz ob u ih=>obtain⟨e,q⟩:=x; exact⟨k _ _ (.inl rfl) e,ih q⟩
 | tbl ps=>
  have e:h.get? a=some { cls:=.none,data:=.fields ps }:=x
  show h'.get? a=some { cls:=.none,data:=.fields ps }
  exact k a _ (.inl rfl) e
 | met f y=>
  have e:h.get? a=some (PySem.W.methodObj (.ref f) (.ref y)):=x
  show h'.get? a=some (PySem.W.methodObj (.ref f) (.ref y))
  exact k a _ (.inl rfl) e
 | ext φ=>obtain⟨p,⟨o,e⟩,st⟩:=x; exact⟨st _ _ p fun o q=>k _ _ (.inl rfl) q,⟨o,k _ _ (.inl rfl) e⟩,st⟩
theorem HOk.lt (x:HOk P w H h) (e:H a=some o):a<h.objs.size:=(x a o e).lt
theorem HOk.fresh (x:HOk P w H h) (e:h.objs.size<=a):H a=none:=by
 cases q:H a with
 | none=>rfl
 | some u=>exact absurd (Nat.lt_of_lt_of_le (x.lt q) e) (Nat.lt_irrefl _)
theorem HOk.kept (x:HOk P w H h) (k:∀ b u,h.get? b=some u->h'.get? b=some u):HOk P w H h':=fun a o e=>
 (x a o e).stay (fun b u _ q=>k b u q) (fun _ q=>q) fun _ _ q=>q
theorem HOk.laid (x:HOk P w H h) (k:∀ b u,h.get? b=some u->h'.get? b=some u) (hp:h.objs.size<=a) (new:ObjOk P w (upd H a o) h' a o):HOk P w (upd H a o) h':=fun b u e=>by
 have hn:=x.fresh hp
 by_cases hb:b=a
 ·subst hb; rw[upd_same]at e; cases e; exact new
 ·rw[upd_ne hb]at e
  exact(x b u e).stay (fun c v _ q=>k c v q) (fun c q=>by rw[upd_ne (ne_of_none q hn)]; exact q) fun c xs q=>by rw[upd_ne (ne_of_none q hn)]; exact q
end
def Rd (H:Hp) (a:Addr) (u:HO):Prop:=H a=some u\/∃ o,H a=some (.frz o u)
theorem Rd.ok {P:Program} {w:World} {H:Hp} {h:Heap} {a:Addr} {u:HO} (r:Rd H a u) (x:HOk P w H h):ObjOk P w H h a u:=by
 rcases r with r | ⟨o,r⟩
 ·exact x a u r
 ·obtain⟨_,q⟩:=x a _ r
  exact q
def Mut:Option HO->Prop
 | some (.lst _)=>True
 | some (.dK _)=>True
 | some (.dT _)=>True
 | some (.set _ _)=>True
 | some (.ins _ _ _)=>True
 | some (.ext _)=>True
 | _=>False
section
variable {P:Program} {w:World} {H:Hp} {h h':Heap} {x e:Addr} {o':HO}
theorem HOk.write (ok:HOk P w H h) (mu:Mut (H x)) (he:e=x\/H e=some (.own x)) (k:∀ b u,b≠e->h.get? b=some u->h'.get? b=some u) (heo:∃ u,h'.get? e=some u)
  (new:ObjOk P w (upd H x o') h' x o'):HOk P w (upd H x o') h':=fun b u q=>by
 have nown:∀ c y,H c=some (.own y)->c≠x:=fun c y r z=>by subst z; rw[r]at mu; exact mu
 have ntup:∀ c xs,H c=some (.tup xs)->c≠x:=fun c xs r z=>by subst z; rw[r]at mu; exact mu
 by_cases hb:b=x
 ·subst hb; rw[upd_same]at q; cases q; exact new
 ·rw[upd_ne hb]at q
  by_cases hbe:b=e
  ·have q':H b=some (.own x):=by
    rcases he with z | z
    ·exact absurd (hbe.trans z) hb
    ·rw[hbe]; exact z
   rw[q]at q'; cases q'
   obtain⟨v,hv⟩:=heo
   exact⟨v,by rw[hbe]; exact hv⟩
  ·refine(ok b u q).stay (fun c v hc r=>k c v ?_ r) (fun c r=>by rw[upd_ne (nown c b r)]; exact r) fun c xs r=>by rw[upd_ne (ntup c xs r)]; exact r
   rcases hc with rfl | hc
   ·exact hbe
   ·rintro rfl
    rcases he with z | z
    ·exact nown c b hc z
    ·rw[hc]at z; cases z; exact hb rfl
end
structure Un (fs ex:List Addr) (H H':Hp) (h h':Heap):Prop where
 keep:∀ b o,h.get? b=some o->H b=none->b ∉ fs->b ∉ ex->h'.get? b=some o
 slot:∀ b o,h.get? b=some o->H b=none->b∈fs->b ∉ ex->∃ sl,h'.get? b=some { o with slots:=sl }
 free:∀ b o,h.get? b=some o->H b=none->b ∉ ex->H' b=none
 there:∀ b o,h.get? b=some o->b ∉ ex->∃ o',h'.get? b=some o'
 tups:∀ b xs,H b=some (.tup xs)->H' b=some (.tup xs)
 frzs:∀ b o u,H b=some (.frz o u)->H' b=some (.frz o u)
 tbls:∀ b ps,H b=some (.tbl ps)->∃ more,H' b=some (.tbl (ps++more))
section
variable {fs fs' ex ex':List Addr} {H H1 H2:Hp} {h h1 h2 h':Heap} {a x e:Addr} {o:HO}
theorem Un.any (u:Un fs ex H H1 h h1) {b:Addr} {ob:Obj} (q:h.get? b=some ob) (n:H b=none) (hx:b ∉ ex):∃ sl,h1.get? b=some { ob with slots:=sl }:=by
 by_cases hb:b∈fs
 ·exact u.slot b ob q n hb hx
 ·exact⟨ob.slots,u.keep b ob q n hb hx⟩
theorem Un.kept (k:∀ b u,h.get? b=some u->h'.get? b=some u):Un fs ex H H h h':=
 ⟨fun b ob q _ _ _=>k b ob q,fun b ob q _ _ _=>⟨ob.slots,k b ob q⟩,fun _ _ _ n _=>n,fun b ob q _=>⟨ob,k b ob q⟩,fun _ _ q=>q,fun _ _ _ q=>q,fun _ ps q=>⟨#[],by rw[q]; simp⟩⟩
theorem Un.refl:Un fs ex H H h h:=Un.kept fun _ _ q=>q
theorem Un.laid (k:∀ b u,h.get? b=some u->h'.get? b=some u) (hp:h.objs.size<=a) (hn:H a=none):Un fs ex H (upd H a o) h h' where
 keep:=fun b u q _ _ _=>k b u q
 slot:=fun b u q _ _ _=>⟨u.slots,k b u q⟩
 free:=fun b u q n _=>by rw[upd_ne (Nat.ne_of_lt (Nat.lt_of_lt_of_le (Heap.lt_size q) hp))]; exact n
 there:=fun b u q _=>⟨u,k b u q⟩
 tups:=fun b xs q=>by rw[upd_ne (ne_of_none q hn)]; exact q
 frzs:=fun b u xs q=>by rw[upd_ne (ne_of_none q hn)]; exact q
 tbls:=fun b ps q=>⟨#[],by rw[upd_ne (ne_of_none q hn),q]; simp⟩
theorem Un.write (mu:Mut (H x)) (he:e=x\/H e=some (.own x)) (k:∀ b u,b≠e->h.get? b=some u->h'.get? b=some u) (heo:∃ u,h'.get? e=some u):Un fs ex H (upd H x o) h h':=by
 have hx:∀ b,H b=none->b≠x:=fun b n z=>by subst z; rw[n]at mu; exact mu
 have hb:∀ b,H b=none->b≠e:=fun b n z=>by
  subst z
  rcases he with r | r
  ·exact hx b n r
  ·rw[n]at r; cases r
 have hm:∀ b u,H b=some u->¬ Mut (some u)->b≠x:=fun b u q nm z=>by subst z; rw[q]at mu; exact nm mu
 refine⟨fun b u q n _ _=>k b u (hb b n) q,fun b u q n _ _=>⟨u.slots,k b u (hb b n) q⟩,fun b u q n _=>by rw[upd_ne (hx b n)]; exact n,fun b u q _=>?_,
  fun b xs q=>by rw[upd_ne (hm b _ q fun z=>z)]; exact q,fun b u xs q=>by rw[upd_ne (hm b _ q fun z=>z)]; exact q,fun b ps q=>⟨#[],by rw[upd_ne (hm b _ q fun z=>z),q]; simp⟩⟩
 by_cases hbe:b=e
 ·subst hbe; exact heo
 ·exact⟨u,k b u hbe q⟩
end
def trk (h:Heap) (H:Hp):List Addr:=(List.range h.objs.size).filter fun a=>(H a).isSome
def hidT (h:Heap) (H:Hp):Heap:=PySem.W.hideAll h (trk h H)
theorem hidT_size (h:Heap) (H:Hp):(hidT h H).objs.size=h.objs.size:=PySem.W.hideAll_size _ _
theorem hidT_get {h:Heap} {H:Hp} {b:Addr} {o:Obj} (e:h.get? b=some o) (n:H b=none):(hidT h H).get? b=some o:=
 PySem.W.hideAll_get _ e fun hm=>by
  have q:(H b).isSome=true:=(List.mem_filter.mp hm).2
  rw[n]at q; simp at q
theorem of_hidT {h:Heap} {H:Hp} {b:Addr} {o:Obj} (e:(hidT h H).get? b=some o):h.get? b=some o/\H b=none:=by
 have e':h.get? b=some o:=PySem.W.of_hideAll (trk h H) e
 refine⟨e',?_⟩
 cases q:H b with
 | none=>rfl
 | some x=>
  have hm:b∈trk h H:=List.mem_filter.mpr ⟨List.mem_range.mpr (Heap.lt_size e'),by simp [q]⟩
  have z:(hidT h H).get? b=none:=PySem.W.hideAll_none (trk h H) hm
  rw[z]at e; cases e
def allNews (g h:Heap) (L:Addr):List (Addr × Obj):=(List.range h.objs.size).filterMap fun a=>if a=L\/(g.get? a).isSome=true then none else (h.get? a).map fun o=>(a,o)
def rest (g h:Heap) (L d:Addr):List (Addr × Obj):=(allNews g h L).filter fun p=>decide (p.1≠d)
end L2
namespace L2
open PySem PySem.Spec PyProof.Rows
structure Mod (K:PySem.W.Frag) (mg:Str->Option Value) (base:Heap):Prop where
 kin:K.In base
 glob:base.Ns mainGlobals mg
 blt:∃ mb,base.Ns builtinsNs mb/\∀ x:Str,x ≠ "__name__"->mb x=bootBuiltins x
 nolimit:base.NoLimit
structure Cx where
 prog:Program
 w:World
 K:PySem.W.Frag
 mg:Str->Option Value
 base:Heap
 A:Around
 N:List Str
 s₀ : Shared
 H₀ : Hp
 env:Env
 outer:List Env
 stack:List Env
 ex:List Addr
 fn:Str->Bool
 calm:Bool
 pn:List (Addr × Obj)
 xe:Value->Shared->Prop
def frs (l:List Env):List Addr:=l.filterMap (·.frame)
abbrev Cx.fs (X:Cx):List Addr:=frs X.outer
def Vis (sc:Scope) (x:Str):Prop:=sc.names.lookup x=some .local\/sc.names.lookup x=some .cell\/sc.names.lookup x=some .free
def Loc (sc:Scope) (x:Str):Prop:=sc.names.lookup x=some .local\/sc.names.lookup x=some .cell
def Look (env:Env) (h:Heap) (m:Str->Option Value) (x:Str) (u:Value):Prop:=
 (env.kindOf x=some .local/\m x=some u)\/((env.kindOf x=some .cell\/env.kindOf x=some .free)/\∃ c,env.cells.lookup x=some c/\h.IsCell c (some u))
structure Cx.Ok (X:Cx):Prop where
 mod:Mod X.K X.mg X.base
 kind:X.env.scope.kind = .function
 glob:X.env.globals=mainGlobals
 blt:X.env.builtins=builtinsNs
 above:X.s₀.heap.objs.size<=X.env.locals
 inj:∀ x y c,X.env.cells.lookup x=some c->X.env.cells.lookup y=some c->x=y
 has:∀ x,(X.env.kindOf x=some .cell\/X.env.kindOf x=some .free)->∃ c,X.env.cells.lookup x=some c
 cab:∀ x c,X.fn x=true->X.env.cells.lookup x=some c->X.s₀.heap.objs.size<=c
 hd:X.calm=true->X.A.handled=none
 frames:X.A.frames=some X.stack
 stk:X.stack=X.outer\/(X.stack=X.env::X.outer/\X.env.frame=some X.env.locals)
 exf:∀ b∈X.ex,b≠X.env.locals/\∀ x c,X.env.cells.lookup x=some c->c≠b
 bs:∀ b o,X.base.get? b=some o->X.s₀.heap.get? b=some o/\X.H₀ b=none
 bsz:X.base.objs.size<=X.s₀.heap.objs.size
 noex:∀ b o,X.base.get? b=some o->b ∉ X.ex
 exfs:∀ b∈X.ex,b ∉ X.fs
 funs:X.s₀.heap.FunFrames X.base X.outer
 frf:∀ b∈X.fs,X.H₀ b=none
structure Inv (X:Cx) (pins:List (Addr × Obj)) (σ : List (Option V)) (H:Hp) (s:Shared):Prop where
 ok:X.Ok
 os:s.os=X.s₀.os
 bare:AllBare s.gens
 base:Un X.fs X.ex X.H₀ H X.s₀.heap s.heap
 loc:∃ m,s.heap.Ns X.env.locals m/\∀ (i:Nat) (x:Str) (v:V),X.N[i]? = some x->σ[i]? = some (some v)->Vis X.env.scope x->∃ u,RelV v u/\Look X.env s.heap m x u
 cell:∀ x c,X.env.cells.lookup x=some c->∃ v,s.heap.IsCell c v
 free:H X.env.locals=none
 freeC:∀ x c,X.env.cells.lookup x=some c->H c=none
 pin:∀ p∈X.pn++pins,s.heap.get? p.1=some p.2/\H p.1=none/\p.1≠X.env.locals/\p.1 ∉ X.fs/\∀ v,p.2.data ≠ .cell v
 hok:HOk X.prog X.w H s.heap
 len:σ.length=X.N.length
section
variable {X:Cx} {pins:List (Addr × Obj)} {σ : List (Option V)} {H H':Hp} {s:Shared} {h':Heap}
theorem Cx.Ok.nofr (ok:X.Ok) {b:Addr} {o:Obj} (e:X.base.get? b=some o):b ∉ X.fs:=fun hb=>by
 have:=(ok.funs.mem hb).1
 rw[e]at this; cases this
theorem Inv.bs (I:Inv X pins σ H s):∀ b o,X.base.get? b=some o->s.heap.get? b=some o/\H b=none:=fun b o e=>
 ⟨I.base.keep b o (I.ok.bs b o e).1 (I.ok.bs b o e).2 (I.ok.nofr e) (I.ok.noex b o e),I.base.free b o (I.ok.bs b o e).1 (I.ok.bs b o e).2 (I.ok.noex b o e)⟩
theorem Inv.bk (I:Inv X pins σ H s):∀ b o,X.base.get? b=some o->s.heap.get? b=some o:=fun b o e=>(I.bs b o e).1
theorem Inv.mod (I:Inv X pins σ H s):Mod X.K X.mg X.base:=I.ok.mod
theorem Inv.kIn (I:Inv X pins σ H s):X.K.In s.heap:=I.ok.mod.kin.keeps I.bk
theorem Inv.lt (I:Inv X pins σ H s):X.env.locals<s.heap.objs.size:=let ⟨_,hn,_⟩:=I.loc; hn.lt
theorem Inv.sz (I:Inv X pins σ H s):X.s₀.heap.objs.size<=s.heap.objs.size:=Nat.le_trans I.ok.above (Nat.le_of_lt I.lt)
theorem Inv.nofs (I:Inv X pins σ H s) {a:Addr} (h:s.heap.objs.size<=a):a ∉ X.fs:=fun hb=>by
 obtain⟨_,o,ho,_⟩:=I.ok.funs.mem hb
 exact absurd (Nat.lt_of_lt_of_le (Heap.lt_size ho) (Nat.le_trans I.sz h)) (Nat.lt_irrefl _)
theorem Inv.cne (I:Inv X pins σ H s):∀ x c,X.env.cells.lookup x=some c->c≠X.env.locals:=fun x c e z=>by
 obtain⟨v,o,ho,hd⟩:=I.cell x c e
 obtain⟨m,⟨o',es,ep,ho',hd',_⟩,_⟩:=I.loc
 rw[z,ho']at ho; cases ho; rw[hd']at hd; cases hd
theorem Inv.funs (I:Inv X pins σ H s):s.heap.FunFrames X.base X.outer:=by
 have all:∀ (l:List Env),(∀ b∈frs l,b∈X.fs)->X.s₀.heap.FunFrames X.base l->s.heap.FunFrames X.base l:=by
  intro l
  induction l with
  | nil=>intro _ _; trivial
  | cons env r ih=>
   intro hs hl
   obtain⟨hk,⟨L,o,hf,hn,ho,hd⟩,hr⟩:=hl
   have hL:L∈X.fs:=hs L (by unfold frs; rw[List.filterMap_cons,hf]; exact List.mem_cons_self)
   obtain⟨sl,e⟩:=I.base.slot L o ho (I.ok.frf L hL) hL fun z=>I.ok.exfs L z hL
   exact⟨hk,⟨L,_,hf,hn,e,hd⟩,ih (fun b hb=>hs b (by unfold frs; rw[List.filterMap_cons,hf]; exact List.mem_cons_of_mem _ hb)) hr⟩
 exact all X.outer (fun _ hb=>hb) I.ok.funs
theorem Inv.stack (I:Inv X pins σ H s):s.heap.FunFrames X.base X.stack:=by
 rcases I.ok.stk with e | ⟨e,hf⟩
 ·rw[e]; exact I.funs
 ·rw[e]
  obtain⟨m,hn,_⟩:=I.loc
  refine .cons (by rw[I.ok.kind]; decide) hf hn ?_ I.funs
  exact Heap.get?_none_of_le (Nat.le_trans I.ok.bsz I.ok.above)
theorem Inv.stkSub (I:Inv X pins σ H s):∀ b∈frs X.stack,b∈X.env.locals::X.fs:=fun b hb=>by
 rcases I.ok.stk with e | ⟨e,hf⟩
 ·rw[e]at hb; exact List.mem_cons_of_mem _ hb
 ·rw[e]at hb
  unfold frs at hb
  rw[List.filterMap_cons,hf]at hb
  exact hb
theorem Inv.stkFree (I:Inv X pins σ H s):∀ b∈frs X.stack,H b=none:=fun b hb=>by
 rcases List.mem_cons.mp (I.stkSub b hb) with e | hb
 ·rw[e]; exact I.free
 ·obtain⟨_,o,ho,_⟩:=I.ok.funs.mem hb
  exact I.base.free b o ho (I.ok.frf b hb) fun z=>I.ok.exfs b z hb
theorem Inv.step {g':Array GenState} {t':Nat} {d':Drawn} {ch:List Addr} (I:Inv X pins σ H s)
  (hch:∀ b∈ch,(b∈X.ex\/X.s₀.heap.objs.size<=b)/\b≠X.env.locals/\(∀ x c,X.env.cells.lookup x=some c->c≠b)/\∀ p∈X.pn++pins,p.1≠b)
  (keep:∀ b o,b≠X.env.locals->b ∉ X.fs->b ∉ ch->s.heap.get? b=some o->H b=none->h'.get? b=some o)
  (slot:∀ b o,b≠X.env.locals->b∈X.fs->b ∉ ch->s.heap.get? b=some o->H b=none->∃ sl,h'.get? b=some { o with slots:=sl }) (free:∀ b o,b ∉ ch->s.heap.get? b=some o->H b=none->H' b=none)
  (there:∀ b o,b ∉ ch->s.heap.get? b=some o->∃ o',h'.get? b=some o')
  (tups:∀ b xs,H b=some (.tup xs)->H' b=some (.tup xs)) (frzs:∀ b o u,H b=some (.frz o u)->H' b=some (.frz o u)) (tbls:∀ b ps,H b=some (.tbl ps)->∃ more,H' b=some (.tbl (ps++more)))
  (ns:∀ m,s.heap.Ns X.env.locals m->h'.Ns X.env.locals m) (hok:HOk X.prog X.w H' h') (hg:AllBare g') :
  Inv X pins σ H' { s with heap:=h',gens:=g',drawn:=d',toks:=t' }:=by
 have neL:∀ b o,X.s₀.heap.get? b=some o->b≠X.env.locals:=fun b o e=>Nat.ne_of_lt (Nat.lt_of_lt_of_le (Heap.lt_size e) I.ok.above)
 have neC:∀ b o,X.s₀.heap.get? b=some o->b ∉ X.ex->b ∉ ch:=fun b o e hx hb=>by
  rcases (hch b hb).1 with z | z
  ·exact hx z
  ·exact absurd (Nat.lt_of_lt_of_le (Heap.lt_size e) z) (Nat.lt_irrefl _)
 have cellK:∀ x c,X.env.cells.lookup x=some c->∀ v,s.heap.IsCell c v->h'.IsCell c v:=fun x c e v ⟨o,ho,hd⟩=>by
  have nch:c ∉ ch:=fun z=>(hch c z).2.2.1 x c e rfl
  by_cases hc:c∈X.fs
  ·obtain⟨sl,q⟩:=slot c o (I.cne x c e) hc nch ho (I.freeC x c e)
   exact⟨_,q,hd⟩
  ·exact⟨o,keep c o (I.cne x c e) hc nch ho (I.freeC x c e),hd⟩
 refine⟨I.ok,I.os,hg,⟨fun b o e n hb hx=>?_,fun b o e n hb hx=>?_,fun b o e n hx=>?_,fun b o e hx=>?_,fun b xs e=>tups b xs (I.base.tups b xs e),fun b o xs e=>frzs b o xs (I.base.frzs b o xs e),fun b ps e=>?_⟩,?_,fun x c e=>?_,?_,fun x c e=>?_,fun p hp=>?_,hok,I.len⟩
 ·exact keep b o (neL b o e) hb (neC b o e hx) (I.base.keep b o e n hb hx) (I.base.free b o e n hx)
 ·obtain⟨sl,e1⟩:=I.base.slot b o e n hb hx
  obtain⟨sl',e2⟩:=slot b _ (neL b o e) hb (neC b o e hx) e1 (I.base.free b o e n hx)
  exact⟨sl',e2⟩
 ·obtain⟨o',e1⟩:=I.base.there b o e hx
  exact free b o' (neC b o e hx) e1 (I.base.free b o e n hx)
 ·obtain⟨o',e1⟩:=I.base.there b o e hx
  exact there b o' (neC b o e hx) e1
 ·obtain⟨m1,e1⟩:=I.base.tbls b ps e
  obtain⟨m2,e2⟩:=tbls b _ e1
  exact⟨m1++m2,by rw[e2,Array.append_assoc]⟩
 ·obtain⟨m,hn,hl⟩:=I.loc
  refine⟨m,ns m hn,fun i x v e1 e2 e3=>?_⟩
  obtain⟨u,r,l⟩:=hl i x v e1 e2 e3
  refine⟨u,r,?_⟩
  rcases l with l | ⟨k,c,e,z⟩
  ·exact .inl l
  ·exact .inr ⟨k,c,e,cellK x c e _ z⟩
 ·obtain⟨v,z⟩:=I.cell x c e
  exact⟨v,cellK x c e v z⟩
 ·obtain⟨m,⟨o,_,_,ho,_⟩,_⟩:=I.loc
  exact free _ o (fun z=>(hch _ z).2.1 rfl) ho I.free
 ·obtain⟨v,o,ho,hd⟩:=I.cell x c e
  exact free c o (fun z=>(hch c z).2.2.1 x c e rfl) ho (I.freeC x c e)
 ·obtain⟨e,n,ne,nf,d⟩:=I.pin p hp
  have nch:p.1 ∉ ch:=fun z=>(hch p.1 z).2.2.2 p hp rfl
  exact⟨keep p.1 p.2 ne nf nch e n,free p.1 p.2 nch e n,ne,nf,d⟩
theorem Inv.un {t':Nat} (I:Inv X pins σ H s) (u:Un X.fs [] H H' s.heap h') (hok:HOk X.prog X.w H' h'):Inv X pins σ H' { s with heap:=h',toks:=t' }:=by
 obtain⟨m,⟨o,es,ep,ho,r⟩,_⟩:=id I.loc
 obtain⟨sl,hL⟩:=u.any ho I.free (by simp)
 exact I.step (g':=s.gens) (d':=s.drawn) (ch:=[]) (fun _ z=>nomatch z) (fun b o _ hb _ e n=>u.keep b o e n hb (by simp)) (fun b o _ hb _ e n=>u.slot b o e n hb (by simp)) (fun b o _ e n=>u.free b o e n (by simp)) (fun b o _ e=>u.there b o e (by simp)) u.tups u.frzs u.tbls (fun m' hm=>by
  obtain⟨o',es',ep',ho',r'⟩:=hm
  rw[ho]at ho'; cases ho'
  exact⟨_,es',ep',hL,r'⟩) hok I.bare
theorem Inv.call {g':Array GenState} {t':Nat} {d':Drawn} {ch:List Addr} (I:Inv X pins σ H s) (u:Un (frs X.stack) ch H H' s.heap h') (hok:HOk X.prog X.w H' h') (hg:AllBare g')
  (hch:∀ b∈ch,(b∈X.ex\/X.s₀.heap.objs.size<=b)/\b≠X.env.locals/\(∀ x c,X.env.cells.lookup x=some c->c≠b)/\∀ p∈X.pn++pins,p.1≠b) :
  Inv X pins σ H' { s with heap:=h',gens:=g',drawn:=d',toks:=t' }:=by
 obtain⟨m,⟨o,es,ep,ho,r⟩,_⟩:=id I.loc
 obtain⟨sl,hL⟩:=u.any ho I.free fun z=>(hch _ z).2.1 rfl
 exact I.step (ch:=ch) hch (fun b o hL hb hc e n=>u.keep b o e n (fun z=>(List.mem_cons.mp (I.stkSub b z)).elim hL hb) hc) (fun b o _ _ hc e n=>u.any e n hc) (fun b o hc e n=>u.free b o e n hc) (fun b o hc e=>u.there b o e hc) u.tups u.frzs u.tbls (fun m' hm=>by
  obtain⟨o',es',ep',ho',r'⟩:=hm
  rw[ho]at ho'; cases ho'
  exact⟨_,es',ep',hL,r'⟩) hok hg
theorem Inv.turned {t':Nat} {it:Addr} (I:Inv X pins σ H s) (k:∀ b o,b≠it->s.heap.get? b=some o->h'.get? b=some o) (hn:H it=none) (hL:it≠X.env.locals)
  (h1:it∈X.ex\/X.s₀.heap.objs.size<=it) (h2:∀ x c,X.env.cells.lookup x=some c->c≠it) (h3:∀ p∈X.pn++pins,p.1≠it):Inv X pins σ H { s with heap:=h',toks:=t' }:=by
 have nit:∀ b u,H b=some u->b≠it:=fun b u e z=>by rw[z,hn]at e; cases e
 refine I.step (g':=s.gens) (d':=s.drawn) (ch:=[it]) (fun b hb=>?_) (fun b o _ _ hc e _=>k b o (fun z=>hc (by simp [z])) e) (fun b o _ _ hc e _=>⟨o.slots,k b o (fun z=>hc (by simp [z])) e⟩) (fun _ _ _ _ n=>n)
  (fun b o hc e=>⟨o,k b o (fun z=>hc (by simp [z])) e⟩) (fun _ _ e=>e) (fun _ _ _ e=>e) (fun b ps e=>⟨#[],by rw[e]; simp⟩) (fun m hm=>?_) (fun b u e=>?_) I.bare
 ·have e:b=it:=by simpa using hb
  subst e
  exact⟨h1,hL,h2,h3⟩
 ·obtain⟨o,es,ep,ho,r⟩:=hm
  exact⟨o,es,ep,k _ o (Ne.symm hL) ho,r⟩
 ·refine(I.hok b u e).stay (fun c v hc q=>k c v ?_ q) (fun _ q=>q) fun _ _ q=>q
  rcases hc with z | z
  ·rw[z]; exact nit b u e
  ·exact nit c _ z
theorem Inv.tok (I:Inv X pins σ H s) (t:Nat):Inv X pins σ H { s with toks:=t }:=I.un (h':=s.heap) (t':=t) Un.refl I.hok
theorem Inv.kept {t':Nat} (I:Inv X pins σ H s) (k:∀ b u,s.heap.get? b=some u->h'.get? b=some u):Inv X pins σ H { s with heap:=h',toks:=t' }:=I.un (Un.kept k) (I.hok.kept k)
theorem Inv.laid {a:Addr} {o:HO} {t':Nat} (I:Inv X pins σ H s) (k:∀ b u,s.heap.get? b=some u->h'.get? b=some u) (hp:s.heap.objs.size<=a) (new:ObjOk X.prog X.w (upd H a o) h' a o) :
  Inv X pins σ (upd H a o) { s with heap:=h',toks:=t' }:=I.un (Un.laid k hp (I.hok.fresh hp)) (I.hok.laid k hp new)
theorem Inv.write {x e:Addr} {o:HO} {t':Nat} (I:Inv X pins σ H s) (mu:Mut (H x)) (he:e=x\/H e=some (.own x)) (k:∀ b u,b≠e->s.heap.get? b=some u->h'.get? b=some u) (heo:∃ u,h'.get? e=some u)
  (new:ObjOk X.prog X.w (upd H x o) h' x o):Inv X pins σ (upd H x o) { s with heap:=h',toks:=t' }:=I.un (Un.write mu he k heo) (I.hok.write mu he k heo new)
theorem Inv.pins_of {pins':List (Addr × Obj)} (I:Inv X pins σ H s) (h:∀ p∈pins',s.heap.get? p.1=some p.2/\H p.1=none/\p.1≠X.env.locals/\p.1 ∉ X.fs/\∀ v,p.2.data ≠ .cell v):Inv X pins' σ H s:=
 ⟨I.ok,I.os,I.bare,I.base,I.loc,I.cell,I.free,I.freeC,fun p hp=>(List.mem_append.mp hp).elim (fun z=>I.pin p (List.mem_append_left _ z)) (h p),I.hok,I.len⟩
theorem nodup_ix {N:List Str} (hN:N.Nodup) {i j:Nat} {x:Str} (a:N[i]? = some x) (b:N[j]? = some x):i=j:=by
 obtain⟨h1,e1⟩:=List.getElem?_eq_some_iff.mp a
 obtain⟨h2,e2⟩:=List.getElem?_eq_some_iff.mp b
 exact(List.getElem_inj hN).mp (e1.trans e2.symm)
theorem store_ok2 {M:Model} {A:Around} {E:Value->Shared->Prop} {i:Nat} {x:Str} {v:V} {u:Value} {Q:Unit->Shared->Prop} (I:Inv X pins σ H s) (hN:X.N.Nodup) (hi:X.N[i]? = some x) (hx:Loc X.env.scope x) (r:RelV v u)
  (h:∀ s',Inv X pins (σ.set i (some v)) H s'->(∃ a,Heap.SameBut a s.heap s'.heap/\(a=X.env.locals\/X.env.cells.lookup x=some a))->Q () s') (hf:X.fn x=true\/X.env.scope.names.lookup x=some .local:=by first | exact .inl rfl | exact .inr rfl | assumption):wpAny M A (storeName X.env x u) Q E s:=by
 obtain⟨m,hn,hl⟩:=id I.loc
 have hcls:(X.env.scope.kind == .class || (X.env.scope.kind == .module && X.env.locals != X.env.globals))=false:=by rw[I.ok.kind]; rfl
 have hiσ : i < σ.length:=by rw[I.len]; exact(List.getElem?_eq_some_iff.mp hi).1
 have cne:=I.cne
 have tracked:∀ {a:Addr} {h':Heap},(∃ o,s.heap.get? a=some o/\H a=none)->Heap.SameBut a s.heap h'->HOk X.prog X.w H h':=fun {a h'} ha hs b ob e=>by
  obtain⟨_,_,hfree⟩:=ha
  refine(I.hok b ob e).stay (fun c w' hc q=>(hs.2 c ?_).trans q) (fun _ q=>q) fun _ _ q=>q
  rintro rfl
  rcases hc with rfl | hc
  ·rw[hfree]at e; cases e
  ·rw[hfree]at hc; cases hc
 rcases hx with hk | hk
 ·refine wpAny_storeName_local hk hn (fun h' hn' hs=>?_) hcls
  obtain⟨oL,_,_,hoL,_⟩:=id hn
  refine h _ ⟨I.ok,I.os,I.bare,⟨fun b o e n hb hx=>?_,fun b o e n hb hx=>?_,I.base.free,fun b o e hx=>?_,I.base.tups,I.base.frzs,I.base.tbls⟩,⟨_,hn',fun j y v' e1 e2 e3=>?_⟩,fun y c e=>?_,I.free,I.freeC,fun p hp=>?_,tracked ⟨oL,hoL,I.free⟩ hs,by simpa using I.len⟩ ⟨_,hs,.inl rfl⟩
  ·exact(hs.2 b (Nat.ne_of_lt (Nat.lt_of_lt_of_le (Heap.lt_size e) I.ok.above))).trans (I.base.keep b o e n hb hx)
  ·obtain⟨sl,e1⟩:=I.base.slot b o e n hb hx
   exact⟨sl,(hs.2 b (Nat.ne_of_lt (Nat.lt_of_lt_of_le (Heap.lt_size e) I.ok.above))).trans e1⟩
  ·obtain⟨o',e1⟩:=I.base.there b o e hx
   exact⟨o',(hs.2 b (Nat.ne_of_lt (Nat.lt_of_lt_of_le (Heap.lt_size e) I.ok.above))).trans e1⟩
  ·by_cases hj:j=i
   ·subst hj
    rw[hi]at e1; cases e1
    rw[List.getElem?_set_self hiσ]at e2
    cases e2
    exact⟨u,r,.inl ⟨hk,by simp⟩⟩
   ·rw[List.getElem?_set_ne (Ne.symm hj)]at e2
    obtain⟨u',r',q⟩:=hl j y v' e1 e2 e3
    refine⟨u',r',?_⟩
    rcases q with ⟨k,e⟩ | ⟨k,c,e,z⟩
    ·refine .inl ⟨k,?_⟩
     have:y≠x:=fun e=>hj (nodup_ix hN e1 (e ▸ hi))
     simp [this,e]
    ·exact .inr ⟨k,c,e,z.sameBut hs (cne y c e)⟩
  ·obtain⟨w',z⟩:=I.cell y c e
   exact⟨w',z.sameBut hs (cne y c e)⟩
  ·obtain⟨e,n,ne,nf,d⟩:=I.pin p hp
   exact⟨(hs.2 p.1 ne).trans e,n,ne,nf,d⟩
 ·have hfn:X.fn x=true:=by
   rcases hf with z | z
   ·exact z
   ·rw[z]at hk; cases hk
  obtain⟨c,hc⟩:=I.ok.has x (.inl hk)
  obtain⟨w',z⟩:=I.cell x c hc
  refine wpAny_storeName_cell I.ok.kind hk hc z (fun h' hc' hs=>?_)
  obtain⟨oc,hoc,hocd⟩:=id z
  refine h { s with heap:=h' } ⟨I.ok,I.os,I.bare,⟨fun b o e n hb hx=>?_,fun b o e n hb hx=>?_,I.base.free,fun b o e hx=>?_,I.base.tups,I.base.frzs,I.base.tbls⟩,⟨m,hn.sameBut hs (Ne.symm (cne x c hc)),fun j y v' e1 e2 e3=>?_⟩,fun y c' e=>?_,I.free,I.freeC,fun p hp=>?_,tracked ⟨oc,hoc,I.freeC x c hc⟩ hs,by simpa using I.len⟩ ⟨c,hs,.inr hc⟩
  ·exact(hs.2 b (Nat.ne_of_lt (Nat.lt_of_lt_of_le (Heap.lt_size e) (I.ok.cab x c hfn hc)))).trans (I.base.keep b o e n hb hx)
  ·obtain⟨sl,e1⟩:=I.base.slot b o e n hb hx
   exact⟨sl,(hs.2 b (Nat.ne_of_lt (Nat.lt_of_lt_of_le (Heap.lt_size e) (I.ok.cab x c hfn hc)))).trans e1⟩
  ·obtain⟨o',e1⟩:=I.base.there b o e hx
   exact⟨o',(hs.2 b (Nat.ne_of_lt (Nat.lt_of_lt_of_le (Heap.lt_size e) (I.ok.cab x c hfn hc)))).trans e1⟩
  ·by_cases hj:j=i
   ·subst hj
    rw[hi]at e1; cases e1
    rw[List.getElem?_set_self hiσ]at e2
    cases e2
    exact⟨u,r,.inr ⟨.inl hk,c,hc,hc'⟩⟩
   ·rw[List.getElem?_set_ne (Ne.symm hj)]at e2
    obtain⟨u',r',q⟩:=hl j y v' e1 e2 e3
    refine⟨u',r',?_⟩
    rcases q with q | ⟨k,c',e,z'⟩
    ·exact .inl q
    ·refine .inr ⟨k,c',e,z'.sameBut hs ?_⟩
     rintro rfl
     exact hj (nodup_ix hN e1 (I.ok.inj _ _ _ e hc ▸ hi))
  ·by_cases hcc:c'=c
   ·subst hcc; exact⟨_,hc'⟩
   ·obtain⟨w2,z2⟩:=I.cell y c' e
    exact⟨w2,z2.sameBut hs hcc⟩
  ·obtain⟨e,n,ne,nf,d⟩:=I.pin p hp
   refine⟨(hs.2 p.1 ?_).trans e,n,ne,nf,d⟩
   intro q
   rw[q,hoc]at e
   have q':oc=p.2:=Option.some.inj e
   exact d w' (by rw[<- q']; exact hocd)
theorem store_ok {M:Model} {A:Around} {E:Value->Shared->Prop} {i:Nat} {x:Str} {v:V} {u:Value} {Q:Unit->Shared->Prop} (I:Inv X pins σ H s) (hN:X.N.Nodup) (hi:X.N[i]? = some x) (hx:Loc X.env.scope x) (r:RelV v u)
  (h:∀ s',Inv X pins (σ.set i (some v)) H s'->Q () s') (hf:X.fn x=true\/X.env.scope.names.lookup x=some .local:=by first | exact .inl rfl | exact .inr rfl | assumption):wpAny M A (storeName X.env x u) Q E s:=
 store_ok2 I hN hi hx r (fun s' I' _=>h s' I') hf
theorem Inv.call' {s':Shared} {ch:List Addr} (I:Inv X pins σ H s) (ho:s'.os=s.os) (u:Un (frs X.stack) ch H H' s.heap s'.heap) (hok:HOk X.prog X.w H' s'.heap) (hg:AllBare s'.gens)
  (hch:∀ b∈ch,(b∈X.ex\/X.s₀.heap.objs.size<=b)/\b≠X.env.locals/\(∀ x c,X.env.cells.lookup x=some c->c≠b)/\∀ p∈X.pn++pins,p.1≠b):Inv X pins σ H' s':=by
 obtain⟨h',g',d',t',o'⟩:=s'
 have e:o'=s.os:=ho
 subst e
 exact I.call (g':=g') (t':=t') (d':=d') u hok hg hch
end
abbrev XK:=Value->Option Addr->Hp->Prop
abbrev St:=List (Option V)
abbrev VK:=V->Hp->Prop
abbrev TE:=St->Hp->VK->Prop
abbrev TT:=St->Hp->(Bool->Hp->Prop)->Prop
abbrev TA:=St->Hp->(List V->Hp->Prop)->Prop
structure Ends where
 nx:St->Hp->Prop
 rt:VK
 bk:St->Hp->Prop:=fun _ _=>False
 ct:St->Hp->Prop:=fun _ _=>False
abbrev TS:=Ends->St->Hp->Prop
def EP (X:Cx) (pins:List (Addr × Obj)) (σ : St) (Q:VK) (u:Value) (s':Shared):Prop:=∃ v H',Inv X pins σ H' s'/\RelV v u/\Q v H'
def TP (X:Cx) (pins:List (Addr × Obj)) (σ : St) (Q:Bool->Hp->Prop) (b:Bool) (s':Shared):Prop:=∃ H',Inv X pins σ H' s'/\Q b H'
def AP (X:Cx) (pins:List (Addr × Obj)) (σ : St) (Q:List V->Hp->Prop) (us:List Value) (s':Shared):Prop:=∃ vs H',Inv X pins σ H' s'/\Vals vs us/\Q vs H'
def SP (X:Cx) (pins:List (Addr × Obj)) (D:Ends) (f:Flow) (s':Shared):Prop:=
 match f with
 | .next=>∃ σ' H',Inv X pins σ' H' s'/\D.nx σ' H'
 | .brk=>∃ σ' H',Inv X pins σ' H' s'/\D.bk σ' H'
 | .cont=>∃ σ' H',Inv X pins σ' H' s'/\D.ct σ' H'
 | .ret u=>∃ v σ' H',Inv X pins σ' H' s'/\RelV v u/\D.rt v H'
def PE (X:Cx) (e:Expr) (t:TE):Prop:=
 ∀ (pins:List (Addr × Obj)) (s:Shared) (σ : St) (H:Hp) (Q:VK),Inv X pins σ H s->t σ H Q->wpAny (model X.prog X.w) X.A (eval e X.env) (EP X pins σ Q) X.xe s
def PT (X:Cx) (e:Expr) (t:TT):Prop:=
 ∀ (pins:List (Addr × Obj)) (s:Shared) (σ : St) (H:Hp) (Q:Bool->Hp->Prop),Inv X pins σ H s->t σ H Q->wpAny (model X.prog X.w) X.A (isTrue e X.env (eval e X.env)) (TP X pins σ Q) X.xe s
def PW (X:Cx) (e:Expr) (t:TT):Prop:=
 ∀ (whole:Sem Value) (pins:List (Addr × Obj)) (s:Shared) (σ : St) (H:Hp) (Q:Bool->Hp->Prop),Inv X pins σ H s->t σ H Q->wpAny (model X.prog X.w) X.A (isTrue e X.env whole) (TP X pins σ Q) X.xe s
theorem PW.pt {X:Cx} {e:Expr} {t:TT} (h:PW X e t):PT X e t:=h _
def PA (X:Cx) (es:List Expr) (t:TA):Prop:=
 ∀ (pos:Pos) (pins:List (Addr × Obj)) (s:Shared) (σ : St) (H:Hp) (Q:List V->Hp->Prop),Inv X pins σ H s->t σ H Q->wpAny (model X.prog X.w) X.A (spliced (backTo pos (starEach es X.env))) (AP X pins σ Q) X.xe s
def PS (X:Cx) (st:Stmt) (t:TS):Prop:=
 ∀ (pins:List (Addr × Obj)) (s:Shared) (σ : St) (H:Hp) (D:Ends),Inv X pins σ H s->t D σ H->wpAny (model X.prog X.w) X.A (exec st X.env) (SP X pins D) X.xe s
def PSs (X:Cx) (st:List Stmt) (t:TS):Prop:=
 ∀ (pins:List (Addr × Obj)) (s:Shared) (σ : St) (H:Hp) (D:Ends),Inv X pins σ H s->t D σ H->wpAny (model X.prog X.w) X.A (execs st X.env) (SP X pins D) X.xe s
theorem thn {α : Type} {t:Sem α} {Q Q':α->Shared->Prop} {M:Model} {A:Around} {E:Value->Shared->Prop} {s:Shared} (h:wpAny M A t Q E s) (hQ:∀ a s,Q a s->Q' a s):wpAny M A t Q' E s:=wpAny_mono h hQ fun _ _ x=>x
end L2
namespace L2
open PySem PySem.Spec PyProof.Rows
section
variable {X:Cx}
def tVar (i:Nat):TE:=fun σ H Q=>∃ v,σ[i]? = some (some v)/\Q v H
def tC (v:V):TE:=fun _ H Q=>Q v H
theorem pe_var {i:Nat} {x:Str} {pos:Pos} (hN:X.N[i]? = some x) (hv:Vis X.env.scope x) (hd:(x == ("__debug__" : Str))=false:=by decide) (hcd:(x == ("__classdict__" : Str))=false:=by decide):PE X (.Name x pos) (tVar i):=by
 intro pins s σ H Q I h
 obtain⟨v,e,h⟩:=h
 obtain⟨m,hn,hl⟩:=I.loc
 obtain⟨u,r,l⟩:=hl i x v hN e hv
 have fin:EP X pins σ Q u s:=⟨v,H,I,r,h⟩
 rcases l with ⟨hk,hm⟩ | ⟨hk,c,hc,hcell⟩
 ·exact wpAny_Name (wpAny_loadName_local I.ok.kind hk hn hm fin) hd
 ·rcases hk with hk | hk
  ·exact wpAny_Name (wpAny_loadName_cell I.ok.kind hk hc hcell fin) hd
  ·exact wpAny_Name (wpAny_loadName_free I.ok.kind hk hc hcell fin hcd) hd
theorem pe_int {i j pos}:PE X (.Constant (.int i) j pos) (tC (.int i)):=fun _ _ _ H _ I h=>wpAny_Constant_int ⟨.int i,H,I.tok _,⟨_,rfl⟩,h⟩
theorem pe_bl {b j pos}:PE X (.Constant (.bool b) j pos) (tC (.bl b)):=fun _ _ _ H _ I h=>Constant_bool ⟨.bl b,H,I,rfl,h⟩
theorem pe_non {j pos}:PE X (.Constant .none j pos) (tC .non):=fun _ _ _ H _ I h=>Constant_none ⟨.non,H,I,rfl,h⟩
theorem pe_str {x j pos}:PE X (.Constant (.str x) j pos) (tC (.str x)):=fun _ _ _ H _ I h=>Calls.Constant_str ⟨.str x,H,I.tok _,⟨_,rfl⟩,h⟩
def Gl (X:Cx) (x:Str):Prop:=X.env.kindOf x=some .globalImplicit
theorem ld_glob {E:Value->Shared->Prop} {pins:List (Addr × Obj)} {s:Shared} {σ : St} {H:Hp} {x:Str} {u:Value} {pos:Pos} {Q:Value->Shared->Prop} (I:Inv X pins σ H s) (hg:Gl X x) (hm:X.mg x=some u) (h:Q u s)
  (hd:(x == ("__debug__" : Str))=false:=by decide):wpAny (model X.prog X.w) X.A (eval (.Name x pos) X.env) Q E s:=
 Calls.Name_function_global I.ok.kind hg (Calls.loadGlobal_global (by rw[I.ok.glob]; exact I.mod.glob.keeps I.bk) hm h) hd
theorem ld_blt {E:Value->Shared->Prop} {pins:List (Addr × Obj)} {s:Shared} {σ : St} {H:Hp} {x:Str} {u:Value} {pos:Pos} {Q:Value->Shared->Prop} (I:Inv X pins σ H s) (hg:Gl X x) (hm:X.mg x=none) (hv:bootBuiltins x=some u) (h:Q u s)
  (hn:x ≠ "__name__":=by decide) (hd:(x == ("__debug__" : Str))=false:=by decide):wpAny (model X.prog X.w) X.A (eval (.Name x pos) X.env) Q E s:=by
 obtain⟨mb,h1,h2⟩:=I.mod.blt
 exact Calls.Name_function_global I.ok.kind hg (Calls.loadGlobal_builtin (by rw[I.ok.glob]; exact I.mod.glob.keeps I.bk) hm (by rw[I.ok.blt]; exact h1.keeps I.bk) ((h2 x hn).trans hv) h) hd
theorem pe_glob {x:Str} {v:V} {u:Value} {pos:Pos} (hg:Gl X x) (hm:X.mg x=some u) (r:RelV v u) (hd:(x == ("__debug__" : Str))=false:=by decide):PE X (.Name x pos) (tC v):=
 fun _ _ _ H _ I h=>ld_glob I hg hm ⟨v,H,I,r,h⟩ hd
theorem pe_bltn {x:Str} {v:V} {u:Value} {pos:Pos} (hg:Gl X x) (hm:X.mg x=none) (hv:bootBuiltins x=some u) (r:RelV v u) (hn:x ≠ "__name__":=by decide) (hd:(x == ("__debug__" : Str))=false:=by decide):PE X (.Name x pos) (tC v):=
 fun _ _ _ H _ I h=>ld_blt I hg hm hv ⟨v,H,I,r,h⟩ hn hd
variable {a b:Expr} {ta tb:TE} {pos:Pos}
def PC (X:Cx) (op:CmpOp) (a b:Expr) (t:TE):Prop:=
 ∀ (pins:List (Addr × Obj)) (s:Shared) (σ : St) (H:Hp) (Q:VK),Inv X pins σ H s->t σ H Q->
  wpAny (model X.prog X.w) X.A (eval a X.env) (fun v s₁=>wpAny (model X.prog X.w) X.A (eval b X.env) (fun u s₂=>wpAny (model X.prog X.w) X.A (compareOp op v u) (EP X pins σ Q) X.xe s₂) X.xe s₁) X.xe s
theorem nobehind (b:Expr) {op:CmpOp} (h:op ≠ .In) (h2:op ≠ .NotIn):behindInMarks op b=false:=by
 have e1:(op == CmpOp.In)=false:=by cases op <;> first | rfl | exact absurd rfl h
 have e2:(op == CmpOp.NotIn)=false:=by cases op <;> first | rfl | exact absurd rfl h2
 cases b <;> simp [behindInMarks,e1,e2]
def tB (t:TE):TT:=fun σ H Q=>t σ H fun x H1=>∃ c,x = .bl c/\Q c H1
theorem pt_cmp {op:CmpOp} {t:TE} (h:PC X op a b t) (h1:behindInMarks op b=false:=by first | exact nobehind _ (by decide) (by decide) | rfl):PT X (.Compare a [op] [b] pos) (tB t):=by
 intro pins s σ H Q I hw
 refine wpAny_isTrue_Compare1 (thn (h pins s σ H _ I hw) fun v s1 h1=>thn h1 fun u s2 h2=>thn h2 fun c s3 ⟨x,H1,I1,r1,q1⟩=>?_) h1
 obtain⟨d,rfl,q⟩:=q1
 cases r1
 exact wpAny_truthy_bool ⟨H1,I1,q⟩
theorem pt_val {e:Expr} {t:TE} (h:PE X e t) (he:∀ whole,isTrue e X.env whole=(do let v <- whole; standAt e.pos; holding [v] (truthy v)):=by intro _; rfl):PT X e (tB t):=by
 intro pins s σ H Q I hw
 refine isTrue_plain (thn (h pins s σ H _ I hw) fun v s1 ⟨x,H1,I1,r1,q1⟩=>?_) (he _)
 obtain⟨d,rfl,q⟩:=q1
 cases r1
 exact wpAny_truthy_bool ⟨H1,I1,q⟩
variable {tA tB':TT} {rest:List Expr}
def tAnd (t u:TT):TT:=fun σ H Q=>t σ H fun c H1=>if c=true then u σ H1 Q else Q false H1
def tOr (t u:TT):TT:=fun σ H Q=>t σ H fun c H1=>if c=true then Q true H1 else u σ H1 Q
def tNot (t:TT):TT:=fun σ H Q=>t σ H fun c H1=>Q (!c) H1
theorem pw_and1 (ha:PT X a tA):PW X (.BoolOp .And [a] pos) tA:=by
 intro wh pins s σ H Q I h
 refine isTrue_and (thn (ha pins s σ H Q I h) fun c s1 e=>?_)
 cases c with
 | true=>exact isTrue_and_nil e
 | false=>exact e
theorem pw_or1 (ha:PT X a tA):PW X (.BoolOp .Or [a] pos) tA:=by
 intro wh pins s σ H Q I h
 refine isTrue_or (thn (ha pins s σ H Q I h) fun c s1 e=>?_)
 cases c with
 | false=>exact isTrue_or_nil e
 | true=>exact e
theorem pw_and (ha:PT X a tA) (hb:PW X (.BoolOp .And (b::rest) pos) tB'):PW X (.BoolOp .And (a::b::rest) pos) (tAnd tA tB'):=by
 intro wh pins s σ H Q I h
 refine isTrue_and (thn (ha pins s σ H _ I h) fun c s1 ⟨H1,I1,q1⟩=>?_)
 cases c with
 | true=>exact hb wh pins s1 σ H1 Q I1 q1
 | false=>exact⟨H1,I1,q1⟩
theorem pw_or (ha:PT X a tA) (hb:PW X (.BoolOp .Or (b::rest) pos) tB'):PW X (.BoolOp .Or (a::b::rest) pos) (tOr tA tB'):=by
 intro wh pins s σ H Q I h
 refine isTrue_or (thn (ha pins s σ H _ I h) fun c s1 ⟨H1,I1,q1⟩=>?_)
 cases c with
 | true=>exact⟨H1,I1,q1⟩
 | false=>exact hb wh pins s1 σ H1 Q I1 q1
theorem pt_not (ha:PT X a tA):PT X (.UnaryOp .Not a pos) (tNot tA):=by
 intro pins s σ H Q I h
 exact isTrue_not (ha pins s σ H (fun c H1=>Q (!c) H1) I h)
def tAndV (ta tb:TE):TE:=fun σ H Q=>ta σ H fun x H1=>∃ c,x = .bl c/\if c=true then tb σ H1 Q else Q (.bl false) H1
theorem pe_one {op} {t:TE} (h:PE X a t):PE X (.BoolOp op [a] pos) t:=fun pins s σ H Q I hw=>BoolOp_one (h pins s σ H Q I hw)
theorem pe_and (ha:PE X a ta) (hb:PE X (.BoolOp .And (b::rest) pos) tb):PE X (.BoolOp .And (a::b::rest) pos) (tAndV ta tb):=by
 intro pins s σ H Q I h
 refine BoolOp_and (thn (ha pins s σ H _ I h) fun v s1 ⟨x,H1,I1,r1,q1⟩=>?_)
 obtain⟨c,rfl,q1⟩:=q1
 cases r1
 refine wpAny_truthy_bool ?_
 cases c with
 | true=>exact hb pins s1 σ H1 Q I1 q1
 | false=>exact⟨.bl false,H1,I1,rfl,q1⟩
def tIf (t:TT) (ta tb:TE):TE:=fun σ H Q=>t σ H fun c H1=>if c=true then ta σ H1 Q else tb σ H1 Q
theorem pe_ifExp {c:Expr} (hc:PT X c tA) (ha:PE X a ta) (hb:PE X b tb):PE X (.IfExp c a b pos) (tIf tA ta tb):=by
 intro pins s σ H Q I h
 refine wpAny_IfExp (thn (hc pins s σ H _ I h) fun d s1 ⟨H1,I1,q1⟩=>?_)
 cases d with
 | true=>exact ha pins s1 σ H1 Q I1 q1
 | false=>exact hb pins s1 σ H1 Q I1 q1
end
end L2
namespace L2
open PySem PySem.Spec PyProof.Rows
def SqL (K:PySem.W.Frag) (H:Hp) (a:Addr) (xs:List V):Prop:=
 Rd H a (.lst xs)\/
  ∃ (o:Obj) (its:Array Value) (n:Nat),K.lookup a=some o/\o.cls = .type "list"/\o.dict=none/\o.data = .seq its n/\its.size<=sizeLine/\Vals xs its.toList
def SqT (K:PySem.W.Frag) (H:Hp) (a:Addr) (xs:List V):Prop:=
 Rd H a (.tup xs)\/
  ∃ (o:Obj) (its:Array Value) (n:Nat),K.lookup a=some o/\o.cls = .type "tuple"/\o.data = .seq its n/\its.size<=sizeLine/\Vals xs its.toList
def absV:Value->Option V
 | .none=>some .non
 | .bool b=>some (.bl b)
 | .int i _=>some (.int i)
 | .str x _=>some (.str x)
 | .bytes b _=>some (.byt b)
 | .float b _=>some (.flt b)
 | .ref a=>some (.ref a)
 | .type n=>some (.ty n)
 | _=>none
theorem RelV.abs {x:V} {u:Value} (r:RelV x u):absV u=some x:=by
 cases x with
 | non=>cases r; rfl
 | bl _=>cases r; rfl
 | int _=>obtain⟨t,rfl⟩:=r; rfl
 | str _=>obtain⟨t,rfl⟩:=r; rfl
 | byt _=>obtain⟨t,rfl⟩:=r; rfl
 | flt _=>obtain⟨t,rfl⟩:=r; rfl
 | ref _=>cases r; rfl
 | ty _=>cases r; rfl
theorem RelV.inj {x y:V} {u:Value} (r:RelV x u) (q:RelV y u):x=y:=Option.some.inj (r.abs.symm.trans q.abs)
theorem Vals.inj:∀ {xs ys:List V} {us:List Value},Vals xs us->Vals ys us->xs=ys
 | _,_,_,.nil,.nil=>rfl
 | _,_,_,.cons r t,.cons r' t'=>by rw[r.inj r',Vals.inj t t']
section
variable {X:Cx} {pins:List (Addr × Obj)} {σ : St} {H:Hp} {s:Shared} {a:Addr} {xs ys:List V}
theorem SqL.of {K:PySem.W.Frag} (h:H a=some (.lst xs)):SqL K H a xs:=.inl (.inl h)
theorem SqT.of {K:PySem.W.Frag} (h:H a=some (.tup xs)):SqT K H a xs:=.inl (.inl h)
theorem Inv.list (I:Inv X pins σ H s) (h:SqL X.K H a xs):∃ its:List Value,Vals xs its/\PlainL s.heap a its.toArray/\xs.length<=sizeLine:=by
 rcases h with h | ⟨o,its,n,hk,hc,hd,hs,hz,r⟩
 ·obtain⟨z,its,n,r,e⟩:=h.ok I.hok
  exact⟨its,r,⟨_,n,e,rfl,rfl,rfl⟩,z⟩
 ·refine⟨its.toList,r,⟨o,n,I.kIn a o hk,hc,hd,by simpa using hs⟩,?_⟩
  have e:=r.length
  simp only[Array.length_toList]at e
  omega
theorem Inv.tuple (I:Inv X pins σ H s) (h:SqT X.K H a xs):∃ its:List Value,Vals xs its/\IsTup s.heap a its.toArray/\xs.length<=sizeLine:=by
 rcases h with h | ⟨o,its,n,hk,hc,hs,hz,r⟩
 ·obtain⟨z,its,r,p⟩:=h.ok I.hok
  exact⟨its,r,p,z⟩
 ·refine⟨its.toList,r,⟨o,I.kIn a o hk,hc,n,by simpa using hs⟩,?_⟩
  have e:=r.length
  simp only[Array.length_toList]at e
  omega
theorem Inv.list_inj (I:Inv X pins σ H s) (h:SqL X.K H a xs) (h':SqL X.K H a ys):xs=ys:=by
 obtain⟨its,r,⟨o,n,e,_,_,d⟩,_⟩:=I.list h
 obtain⟨its',r',⟨o',n',e',_,_,d'⟩,_⟩:=I.list h'
 rw[e]at e'; cases e'
 rw[d]at d'
 injection d' with d1 _
 have:its=its':=by simpa using congrArg Array.toList d1
 subst this
 exact r.inj r'
theorem Inv.tuple_inj (I:Inv X pins σ H s) (h:SqT X.K H a xs) (h':SqT X.K H a ys):xs=ys:=by
 obtain⟨its,r,⟨o,e,_,n,d⟩,_⟩:=I.tuple h
 obtain⟨its',r',⟨o',e',_,n',d'⟩,_⟩:=I.tuple h'
 rw[e]at e'; cases e'
 rw[d]at d'
 injection d' with d1 _
 have:its=its':=by simpa using congrArg Array.toList d1
 subst this
 exact r.inj r'
end
abbrev Cx.wish (X:Cx) (E:Value->Shared->Prop):Cx:={ X with xe:=E }
theorem Cx.Ok.wish {X:Cx} (ok:X.Ok) (E:Value->Shared->Prop):(X.wish E).Ok:=
 ⟨ok.mod,ok.kind,ok.glob,ok.blt,ok.above,ok.inj,ok.has,ok.cab,ok.hd,ok.frames,ok.stk,ok.exf,ok.bs,ok.bsz,ok.noex,ok.exfs,ok.funs,ok.frf⟩
theorem Cx.Ok.unwish {X:Cx} {E:Value->Shared->Prop} (ok:(X.wish E).Ok):X.Ok:=
 ⟨ok.mod,ok.kind,ok.glob,ok.blt,ok.above,ok.inj,ok.has,ok.cab,ok.hd,ok.frames,ok.stk,ok.exf,ok.bs,ok.bsz,ok.noex,ok.exfs,ok.funs,ok.frf⟩
section
variable {X:Cx} {pins:List (Addr × Obj)} {σ : St} {H:Hp} {s:Shared} {E:Value->Shared->Prop}
theorem Inv.wish (I:Inv X pins σ H s) (E:Value->Shared->Prop):Inv (X.wish E) pins σ H s:=⟨I.ok.wish E,I.os,I.bare,I.base,I.loc,I.cell,I.free,I.freeC,I.pin,I.hok,I.len⟩
theorem Inv.unwish (I:Inv (X.wish E) pins σ H s):Inv X pins σ H s:=⟨I.ok.unwish,I.os,I.bare,I.base,I.loc,I.cell,I.free,I.freeC,I.pin,I.hok,I.len⟩
theorem SP.unwish {D:Ends} {f:Flow} {s':Shared} (h:SP (X.wish E) pins D f s'):SP X pins D f s':=by
 cases f with
 | next=>obtain⟨σ',H',I,q⟩:=h; exact⟨σ',H',I.unwish,q⟩
 | brk=>obtain⟨σ',H',I,q⟩:=h; exact⟨σ',H',I.unwish,q⟩
 | cont=>obtain⟨σ',H',I,q⟩:=h; exact⟨σ',H',I.unwish,q⟩
 | ret u=>obtain⟨v,σ',H',I,r,q⟩:=h; exact⟨v,σ',H',I.unwish,r,q⟩
end
section
variable {X:Cx} {st:Stmt} {rest:List Stmt} {t u:TS} {e:Expr} {te:TE} {pos:Pos}
def tNext:TS:=fun D σ H=>D.nx σ H
def tSeq (t u:TS):TS:=fun D σ H=>t { D with nx:=u D } σ H
theorem pss_nil:PSs X [] tNext:=fun _ _ σ H _ I h=>wpAny_execs_nil ⟨σ,H,I,h⟩
theorem pss_cons (h1:PS X st t) (h2:PSs X rest u):PSs X (st::rest) (tSeq t u):=by
 intro pins s σ H D I h
 refine wpAny_execs_cons (thn (h1 pins s σ H { D with nx:=u D } I h) fun f s1 q=>?_)
 cases f with
 | next=>
  obtain⟨σ',H',I',q⟩:=q
  exact h2 pins s1 σ' H' D I' q
 | ret v=>exact q
 | brk=>exact q
 | cont=>exact q
theorem pss_one (h1:PS X st t):PSs X [st] t:=by
 intro pins s σ H D I h
 refine wpAny_execs_cons (thn (h1 pins s σ H D I h) fun f s1 q=>?_)
 cases f with
 | next=>exact wpAny_execs_nil q
 | ret v=>exact q
 | brk=>exact q
 | cont=>exact q
theorem Inv.quiet {pins:List (Addr × Obj)} {σ : St} {H:Hp} {s:Shared} (I:Inv X pins σ H s):interactive X.env=false:=by simp [interactive,I.ok.kind]
def tDrop (te:TE):TS:=fun D σ H=>te σ H fun _ H1=>D.nx σ H1
theorem ps_expr (he:PE X e te) (hs:swapsWith e none pos.line X.env=pure false:=by rfl):PS X (.Expr e pos) (tDrop te):=by
 intro pins s σ H D I h
 exact wpAny_Expr_any (thn (he pins s σ H _ I h) fun v s1 ⟨x,H1,I1,r1,q1⟩=>⟨σ,H1,I1,q1⟩) I.quiet hs
def tRet (te:TE):TS:=fun D σ H=>te σ H D.rt
theorem ps_ret (he:PE X e te):PS X (.Return (some e) pos) (tRet te):=by
 intro pins s σ H D I h
 exact wpAny_Return_some (thn (he pins s σ H _ I h) fun v s1 ⟨x,H1,I1,r1,q1⟩=>⟨x,σ,H1,I1,r1,q1⟩)
def tIfS (c:TT) (t u:TS):TS:=fun D σ H=>c σ H fun b H1=>if b=true then t D σ H1 else u D σ H1
theorem ps_if {c:Expr} {a b:List Stmt} {tc:TT} (hc:PT X c tc) (ha:PSs X a t) (hb:PSs X b u):PS X (.If c a b pos) (tIfS tc t u):=by
 intro pins s σ H D I h
 refine wpAny_If (thn (hc pins s σ H _ I h) fun d s1 ⟨H1,I1,q1⟩=>?_)
 cases d with
 | true=>exact ha pins s1 σ H1 D I1 q1
 | false=>exact hb pins s1 σ H1 D I1 q1
end
abbrev TG:=V->St->Hp->(St->Hp->Prop)->Prop
abbrev TGs:=List V->St->Hp->(St->Hp->Prop)->Prop
def PG (X:Cx) (target:Expr) (t:TG):Prop:=
 ∀ (pins:List (Addr × Obj)) (s:Shared) (σ : St) (H:Hp) (v:V) (u:Value) (Q:St->Hp->Prop),Inv X pins σ H s->RelV v u->t v σ H Q->
  wpAny (model X.prog X.w) X.A (assign target X.env u) (fun _ s'=>∃ σ' H',Inv X pins σ' H' s'/\Q σ' H') X.xe s
def PGs (X:Cx) (ts:List Expr) (t:TGs):Prop:=
 ∀ (pins:List (Addr × Obj)) (s:Shared) (σ : St) (H:Hp) (vs:List V) (us:List Value) (Q:St->Hp->Prop),Inv X pins σ H s->Vals vs us->t vs σ H Q->
  wpAny (model X.prog X.w) X.A (assignInOrder ((assignEach ts X.env).map (·.2)) us) (fun _ s'=>∃ σ' H',Inv X pins σ' H' s'/\Q σ' H') X.xe s
abbrev TIp:=V->V->Hp->VK->Prop
def PIp (X:Cx) (op:Operator) (t:TIp):Prop:=
 ∀ (pins:List (Addr × Obj)) (s:Shared) (σ : St) (H:Hp) (x y:V) (v u:Value) (Q:VK),Inv X pins σ H s->RelV x v->RelV y u->t x y H Q->
  wpAny (model X.prog X.w) X.A (inplaceOp op v u) (EP X pins σ Q) X.xe s
section
variable {X:Cx} {pos:Pos}
def gName (i:Nat):TG:=fun v σ H Q=>Q (σ.set i (some v)) H
theorem pg_name {i:Nat} {x:Str} (hN:X.N.Nodup) (hi:X.N[i]? = some x) (hx:Loc X.env.scope x) (hf:X.fn x=true\/X.env.scope.names.lookup x=some .local:=by first | exact .inl rfl | exact .inr rfl | assumption):PG X (.Name x pos) (gName i):=by
 intro pins s σ H v u Q I r h
 exact wpAny_assign_Name (store_ok I hN hi hx r (fun s' I'=>⟨_,H,I',h⟩) hf)
def gNil:TGs:=fun vs σ H Q=>vs=[]/\Q σ H
def gCons (t:TG) (u:TGs):TGs:=fun vs σ H Q=>∃ v r,vs=v::r/\t v σ H fun σ' H'=>u r σ' H' Q
theorem pgs_nil:PGs X [] gNil:=by
 intro pins s σ H vs us Q I r h
 obtain⟨e,h⟩:=h
 subst e
 cases r
 exact assignInOrder_nil ⟨σ,H,I,h⟩
theorem pgs_cons {e:Expr} {es:List Expr} {t:TG} {u:TGs} (h1:PG X e t) (h2:PGs X es u)
  (hs:(assignEach (e::es) X.env).map (·.2)=assign e X.env::(assignEach es X.env).map (·.2):=by rfl):PGs X (e::es) (gCons t u):=by
 intro pins s σ H vs us Q I r h
 obtain⟨v,vr,e1,h⟩:=h
 subst e1
 cases r with
 | cons r rr=>
  rw[hs]
  refine assignInOrder_cons (thn (h1 pins s σ H _ _ _ I r h) fun _ s1 ⟨σ1,H1,I1,q1⟩=>?_)
  exact h2 pins s1 σ1 H1 _ _ Q I1 rr q1
def gTup (K:PySem.W.Frag) (n:Nat) (t:TGs):TG:=fun v σ H Q=>∃ a xs,v = .ref a/\SqT K H a xs/\xs.length=n/\t xs σ H Q
theorem pg_tup {es:List Expr} {k:Nat} {t:TGs} {n:Nat} (hc:X.calm=true) (h:PGs X es t)
  (hn:(assignEach es X.env).length=n:=by rfl) (hst:(assignEach es X.env).findIdx? (·.1)=none:=by rfl):PG X (.Tuple es k pos) (gTup X.K n t):=by
 intro pins s σ H v u Q I r hw
 obtain⟨a,xs,e1,hq,hl,hw⟩:=hw
 subst e1
 cases r
 obtain⟨its,rv,ht,hz⟩:=I.tuple hq
 refine assign_Tuple_tuple (I.ok.hd hc) ht (by simp [hn,<- hl,rv.length]) hst fun h' hx=>?_
 have I1:Inv X pins σ H { s with heap:=h' }:=I.kept (t':=s.toks) fun b o e=>hx b o (Nat.ne_of_lt (Heap.lt_size e)) e
 exact h pins _ σ H xs _ Q I1 (by simpa using rv) hw
def tAsg (te:TE) (g:TG):TS:=fun D σ H=>te σ H fun x H1=>g x σ H1 D.nx
theorem ps_set {i:Nat} {x:Str} {e:Expr} {te:TE} {pos':Pos} (hN:X.N.Nodup) (hi:X.N[i]? = some x) (hx:Loc X.env.scope x) (he:PE X e te) (hs:swapsWith e (some (.Name x pos')) pos.line X.env=pure false:=by rfl) (hf:X.fn x=true\/X.env.scope.names.lookup x=some .local:=by first | exact .inl rfl | exact .inr rfl | assumption) :
  PS X (.Assign [.Name x pos'] e pos) (tAsg te (gName i)):=by
 intro pins s σ H D I h
 refine wpAny_Assign_Name (thn (he pins s σ H _ I h) fun v s1 ⟨y,H1,I1,r1,q1⟩=>?_) hs
 exact store_ok I1 hN hi hx r1 (fun s2 I2=>⟨_,H1,I2,q1⟩) hf
def tAug (i:Nat) (te:TE) (ti:TIp):TS:=fun D σ H=>∃ x,σ[i]? = some (some x)/\te σ H fun y H1=>ti x y H1 fun z H2=>D.nx (σ.set i (some z)) H2
theorem ps_aug {i:Nat} {x:Str} {e:Expr} {te:TE} {op:Operator} {ti:TIp} {pos':Pos} (hN:X.N.Nodup) (hi:X.N[i]? = some x) (hx:Loc X.env.scope x) (he:PE X e te) (ho:PIp X op ti) (hf:X.fn x=true\/X.env.scope.names.lookup x=some .local:=by first | exact .inl rfl | exact .inr rfl | assumption) :
  PS X (.AugAssign (.Name x pos') op e pos) (tAug i te ti):=by
 intro pins s σ H D I h
 obtain⟨v,e1,h⟩:=h
 obtain⟨m,hn,hl⟩:=I.loc
 have vis:Vis X.env.scope x:=by rcases hx with k | k; exact .inl k; exact .inr (.inl k)
 obtain⟨u,r,l⟩:=hl i x v hi e1 vis
 refine wpAny_AugAssign_Name ?_
 have go:wpAny (model X.prog X.w) X.A (eval e X.env) (fun w s₂=>wpAny (model X.prog X.w) X.A (inplaceOp op u w) (fun r s₃=>wpAny (model X.prog X.w) X.A (storeName X.env x r) (fun _=>SP X pins D .next) X.xe s₃) X.xe s₂) X.xe s:=by
  refine thn (he pins s σ H _ I h) fun w s1 ⟨y,H1,I1,r1,q1⟩=>?_
  refine thn (ho pins s1 σ H1 v y u w _ I1 r r1 q1) fun z s2 ⟨zv,H2,I2,r2,q2⟩=>?_
  exact store_ok I2 hN hi hx r2 (fun s3 I3=>⟨_,H2,I3,q2⟩) hf
 rcases l with ⟨hk,hm⟩ | ⟨hk,c,hc,hcell⟩
 ·exact wpAny_loadName_local I.ok.kind hk hn hm go
 ·rcases hk with hk | hk
  ·exact wpAny_loadName_cell I.ok.kind hk hc hcell go
  ·rcases hx with k | k
   ·have:X.env.scope.names.lookup x=some .free:=hk
    rw[k]at this; cases this
   ·have:X.env.scope.names.lookup x=some .free:=hk
    rw[k]at this; cases this
def ipI (f:Int->Int->Int):TIp:=fun x y H Q=>∃ i j,x = .int i/\y = .int j/\Q (.int (f i j)) H
theorem ip_add:PIp X .Add (ipI fun i j=>i+j):=by
 intro pins s σ H x y v u Q I r1 r2 h
 obtain⟨i,j,e1,e2,q⟩:=h
 subst e1; subst e2
 obtain⟨t,rfl⟩:=r1
 obtain⟨t',rfl⟩:=r2
 exact iadd_int ⟨.int _,H,I.tok _,⟨_,rfl⟩,q⟩
theorem ip_sub:PIp X .Sub (ipI fun i j=>i - j):=by
 intro pins s σ H x y v u Q I r1 r2 h
 obtain⟨i,j,e1,e2,q⟩:=h
 subst e1; subst e2
 obtain⟨t,rfl⟩:=r1
 obtain⟨t',rfl⟩:=r2
 exact isub_int ⟨.int _,H,I.tok _,⟨_,rfl⟩,q⟩
end
section
variable {X:Cx} {pos:Pos}
def tWhile (c:TT) (tb:TS):TS:=fun D σ H=>∃ W:Nat->St->Hp->Prop,(∃ m,W m σ H)/\∀ m σ H,W m σ H->
 c σ H fun b H1=>if b=true then ∃ N:St->Hp->Prop,(∀ σ' H',N σ' H'->∃ m',m'<m/\W m' σ' H')/\tb { D with nx:=N,ct:=N,bk:=D.nx } σ H1 else D.nx σ H1
theorem ps_while {c:Expr} {body:List Stmt} {tc:TT} {tb:TS} (hp:PassesOwn (model X.prog X.w) X.A X.env X.xe) (hc:PT X c tc) (hb:PSs X body tb):PS X (.While c body [] pos) (tWhile tc tb):=by
 intro pins s σ H D I h
 obtain⟨W,⟨m0,w0⟩,turn⟩:=h
 refine wpAny_While (codeAny_whileLoop (fun n s'=>∃ σ' H',Inv X pins σ' H' s'/\W n σ' H') ?_ m0 ⟨σ,H,I,w0⟩)
 rintro n s1 ⟨σ1,H1,I1,w1⟩
 refine wpAny_passesOwn hp (thn (hc pins s1 σ1 H1 _ I1 (turn n σ1 H1 w1)) fun b s2 ⟨H2,I2,q2⟩=>?_)
 cases b with
 | true=>
  obtain⟨N,hN,q2⟩:=q2
  rw[if_pos rfl]
  refine wpAny_passesOwn hp (thn (hb pins s2 σ1 H2 _ I2 q2) fun f s3 q3=>?_)
  cases f with
  | next=>
   obtain⟨σ3,H3,I3,n3⟩:=q3
   obtain⟨m',hm,w3⟩:=hN σ3 H3 n3
   exact⟨m',hm,σ3,H3,I3,w3⟩
  | cont=>
   obtain⟨σ3,H3,I3,n3⟩:=q3
   obtain⟨m',hm,w3⟩:=hN σ3 H3 n3
   exact⟨m',hm,σ3,H3,I3,w3⟩
  | brk=>exact q3
  | ret v=>exact q3
 | false=>
  rw[if_neg Bool.false_ne_true]
  exact wpAny_execs_nil ⟨σ1,H2,I2,q2⟩
end
structure It where
 go:Nat->Hp->Prop
 yld:Nat->Hp->V->Hp->Prop
 stop:Nat->Hp->Prop
def FpOk (X:Cx) (pins:List (Addr × Obj)) (H:Hp) (b:Addr):Prop:=
 H b=none/\b≠X.env.locals/\b ∉ X.fs/\(b∈X.ex\/X.s₀.heap.objs.size<=b)/\(∀ x c,X.env.cells.lookup x=some c->c≠b)/\∀ p∈X.pn++pins,p.1≠b
theorem Inv.fpOk {X:Cx} {pins:List (Addr × Obj)} {σ : St} {H H':Hp} {s:Shared} {b:Addr} (I:Inv X pins σ H s) (hb:s.heap.objs.size<=b) (hn:H' b=none):FpOk X pins H' b:=by
 refine⟨hn,Nat.ne_of_gt (Nat.lt_of_lt_of_le I.lt hb),I.nofs hb,.inr (Nat.le_trans I.sz hb),fun x c e z=>?_,fun p hp z=>?_⟩
 ·obtain⟨v,q⟩:=I.cell x c e
  exact absurd (Nat.lt_of_lt_of_le q.lt (by rw[z]; exact hb)) (Nat.lt_irrefl _)
 ·exact absurd (Nat.lt_of_lt_of_le (Heap.lt_size (I.pin p hp).1) (by rw[z]; exact hb)) (Nat.lt_irrefl _)
structure Turn (P:Program) (w:World) (K:PySem.W.Frag) (tg:Expr) (J:It) (fp:List Addr) (it:Addr) (tn:Nat->Heap->Prop):Prop where
 mem:it∈fp
 obj:∀ i h,tn i h->∀ b∈fp,∃ o,h.get? b=some o/\∀ v,o.data ≠ .cell v
 keep:∀ i h h',tn i h->(∀ b∈fp,∀ o,h.get? b=some o->h'.get? b=some o)->tn i h'
 item:∀ (X:Cx),X.prog=P->X.w=w->X.K=K->X.calm=true->∀ (i:Nat) (pins:List (Addr × Obj)) (s:Shared) (σ : St) (H:Hp) (E:Value->Shared->Prop),Inv X pins σ H s->(∀ b∈fp,FpOk X pins H b)->tn i s.heap->J.go i H->
  wpAny (model P w) X.A (pyNext (.ref it)) (fun r s1=>∃ u,r=some u/\
   wpAny (model P w) X.A (letOwnedTupleGo tg (.ref it) u) (fun _ s2=>∃ x H',Inv X pins σ H' s2/\RelV x u/\J.yld i H x H'/\tn (i+1) s2.heap/\∀ b∈fp,H' b=none) E s1) E s
 done:∀ (X:Cx),X.prog=P->X.w=w->X.K=K->X.calm=true->∀ (i:Nat) (pins:List (Addr × Obj)) (s:Shared) (σ : St) (H:Hp) (E:Value->Shared->Prop),Inv X pins σ H s->(∀ b∈fp,FpOk X pins H b)->tn i s.heap->J.stop i H->
  wpAny (model P w) X.A (pyNext (.ref it)) (fun r s1=>r=none/\Inv X pins σ H s1) E s
 self:∀ (A:Around) (i:Nat) (s:Shared) (Q:Value->Shared->Prop) (E:Value->Shared->Prop),tn i s.heap->Q (.ref it) s->wpAny (model P w) A (pyIter (.ref it)) Q E s
abbrev TI:=St->Hp->(It->Hp->Prop)->Prop
def PIE (X:Cx) (pins:List (Addr × Obj)) (σ : St) (tg:Expr) (R:It->Hp->Prop) (itv:Value) (s2:Shared):Prop:=
 ∃ (it:Addr) (fp:List Addr) (tn:Nat->Heap->Prop) (J:It) (H':Hp),itv = .ref it/\Inv X pins σ H' s2/\Turn X.prog X.w X.K tg J fp it tn/\tn 0 s2.heap/\(∀ b∈fp,FpOk X pins H' b)/\R J H'
def PI (X:Cx) (tg iter:Expr) (wi:TI):Prop:=
 ∀ (pins:List (Addr × Obj)) (s:Shared) (σ : St) (H:Hp) (R:It->Hp->Prop),Inv X pins σ H s->wi σ H R->
  wpAny (model X.prog X.w) X.A (eval iter X.env) (fun v s1=>wpAny (model X.prog X.w) X.A (pyIter v) (PIE X pins σ tg R) X.xe s1) X.xe s
theorem go_of {M:Model} {A:Around} {E:Value->Shared->Prop} {s:Shared} {tg:Expr} {it:Addr} {u:Value} {o:Obj} {n:String} {vs:Array Value} {Q:Unit->Shared->Prop} (ho:s.heap.get? it=some o) (hc:o.cls = .type n) (hd:o.data = .fields vs)
  (hn:["enumerate","zip","dict_itemiterator","dict_reverseitemiterator","odict_iterator","itertools.zip_longest","itertools.pairwise"].contains n=false) (hQ:Q () s):wpAny M A (letOwnedTupleGo tg (.ref it) u) Q E s:=by
 unfold letOwnedTupleGo
 cases tg <;> first
  | exact wpAny_pure hQ
  | (cases u <;> first
    | exact wpAny_pure hQ
    | (refine wpAny_bind (wpAny_load ho ?_)
       rw[hc,hd]
       show wpAny M A (if (["enumerate","zip","dict_itemiterator","dict_reverseitemiterator","odict_iterator","itertools.zip_longest","itertools.pairwise"].contains n && vs[0]? == some (rawInt _))=true then _ else _) Q E s
       rw[if_neg (by intro h; rw[hn,Bool.false_and]at h; cases h)]
       exact wpAny_pure hQ))
def Itl (K:PySem.W.Frag) (a:Addr):It:=
 ⟨fun i H=>∃ xs x,SqL K H a xs/\xs[i]? = some x,fun i H x H'=>H'=H/\∀ xs,SqL K H a xs->xs[i]? = some x,fun i H=>∃ xs,SqL K H a xs/\xs.length<=i⟩
def Itt (K:PySem.W.Frag) (a:Addr):It:=
 ⟨fun i H=>∃ xs x,SqT K H a xs/\xs[i]? = some x,fun i H x H'=>H'=H/\∀ xs,SqT K H a xs->xs[i]? = some x,fun i H=>∃ xs,SqT K H a xs/\xs.length<=i⟩
def Itr (lo:Int) (n:Nat):It:=⟨fun i _=>i<n,fun i H x H'=>H'=H/\x = .int (lo+i),fun i _=>n<=i⟩
theorem turn_list {P:Program} {w:World} {K:PySem.W.Frag} {tg:Expr} (a it:Addr):Turn P w K tg (Itl K a) [it] it (fun i h=>h.IsListIter it a i) where
 mem:=by simp
 obj:=fun i h st b hb=>by
  have e:b=it:=by simpa using hb
  subst e
  obtain⟨o,e,c,d⟩:=st
  exact⟨o,e,fun v z=>by rw[d]at z; cases z⟩
 keep:=fun i h h' st k=>st.at fun o e=>k it (by simp) o e
 item:=by
  intro X hP hw hK hc i pins s σ H E I hf st hg
  subst hP hw hK
  obtain⟨xs,x,hq,hx⟩:=hg
  obtain⟨its,rv,p,hz⟩:=I.list hq
  obtain⟨u,hu,ru⟩:=rv.get hx
  obtain⟨f0,f1,f2,f3,f4,f5⟩:=hf it (by simp)
  refine wpAny_pyNext_list_item st p.isList (x:=u) (by simpa using hu) fun h' st' sb=>?_
  have I1:Inv X pins σ H { s with heap:=h' }:=I.turned (t':=s.toks) (fun b o hb e=>(sb.2 b hb).trans e) f0 f1 f3 f4 f5
  obtain⟨o,e,c,d⟩:=id st'
  exact⟨u,rfl,go_of (s:={ s with heap:=h' }) e c d (by decide) ⟨x,H,I1,ru,⟨rfl,fun ys hy=>by rw[I.list_inj hy hq]; exact hx⟩,st',fun b hb=>(hf b hb).1⟩⟩
 done:=by
  intro X hP hw hK hc i pins s σ H E I hf st hg
  subst hP hw hK
  obtain⟨xs,hq,hx⟩:=hg
  obtain⟨its,rv,p,hz⟩:=I.list hq
  obtain⟨f0,f1,f2,f3,f4,f5⟩:=hf it (by simp)
  have hl:=rv.length
  exact wpAny_pyNext_list_end (I.ok.hd hc) st p.isList (by simp; omega) fun h' eb=>⟨rfl,I.turned (t':=s.toks) (fun b o hb e=>eb b o hb e) f0 f1 f3 f4 f5⟩
 self:=fun _ _ _ _ _ st h=>wpAny_pyIter_listiter st h
theorem turn_tuple {P:Program} {w:World} {K:PySem.W.Frag} {tg:Expr} (a it:Addr):Turn P w K tg (Itt K a) [it] it (fun i h=>h.IsTupleIter it a i) where
 mem:=by simp
 obj:=fun i h st b hb=>by
  have e:b=it:=by simpa using hb
  subst e
  obtain⟨o,e,c,d⟩:=st
  exact⟨o,e,fun v z=>by rw[d]at z; cases z⟩
 keep:=fun i h h' st k=>st.at fun o e=>k it (by simp) o e
 item:=by
  intro X hP hw hK hc i pins s σ H E I hf st hg
  subst hP hw hK
  obtain⟨xs,x,hq,hx⟩:=hg
  obtain⟨its,rv,p,hz⟩:=I.tuple hq
  obtain⟨u,hu,ru⟩:=rv.get hx
  obtain⟨f0,f1,f2,f3,f4,f5⟩:=hf it (by simp)
  refine wpAny_pyNext_tuple_item st (show s.heap.IsTuple a its.toArray from p) (x:=u) (by simpa using hu) fun h' st' sb=>?_
  have I1:Inv X pins σ H { s with heap:=h' }:=I.turned (t':=s.toks) (fun b o hb e=>(sb.2 b hb).trans e) f0 f1 f3 f4 f5
  obtain⟨o,e,c,d⟩:=id st'
  exact⟨u,rfl,go_of (s:={ s with heap:=h' }) e c d (by decide) ⟨x,H,I1,ru,⟨rfl,fun ys hy=>by rw[I.tuple_inj hy hq]; exact hx⟩,st',fun b hb=>(hf b hb).1⟩⟩
 done:=by
  intro X hP hw hK hc i pins s σ H E I hf st hg
  subst hP hw hK
  obtain⟨xs,hq,hx⟩:=hg
  obtain⟨its,rv,p,hz⟩:=I.tuple hq
  obtain⟨f0,f1,f2,f3,f4,f5⟩:=hf it (by simp)
  have hl:=rv.length
  exact wpAny_pyNext_tuple_end (I.ok.hd hc) st (show s.heap.IsTuple a its.toArray from p) (by simp; omega) fun h' eb=>⟨rfl,I.turned (t':=s.toks) (fun b o hb e=>eb b o hb e) f0 f1 f3 f4 f5⟩
 self:=fun _ _ _ _ _ st h=>wpAny_pyIter_tupleiter st h
theorem turn_range {P:Program} {w:World} {K:PySem.W.Frag} {tg:Expr} (it:Addr) (lo:Int) (n:Nat):Turn P w K tg (Itr lo n) [it] it (fun i h=>IsRangeIter h it (lo+(i:Nat) * 1) ((n:Int) - (i:Nat)) 1) where
 mem:=by simp
 obj:=fun i h st b hb=>by
  have e:b=it:=by simpa using hb
  subst e
  exact⟨_,st,fun v z=>by
   have z':Data.fields _=Data.cell v:=z
   cases z'⟩
 keep:=fun i h h' st k=>k it (by simp) _ st
 item:=by
  intro X hP hw hK hc i pins s σ H E I hf st hg
  subst hP hw hK
  obtain⟨f0,f1,f2,f3,f4,f5⟩:=hf it (by simp)
  have W:=Walks.range (prog:=X.prog) (w:=X.w) (I.ok.hd hc) it lo 1 n
  refine W.item i s _ _ hg st fun v h' tk hv st' kk=>?_
  obtain⟨t,rfl⟩:=hv
  have I1:Inv X pins σ H { s with heap:=h',toks:=tk }:=I.turned (fun b o hb e=>kk b o (by simpa using hb) e) f0 f1 f3 f4 f5
  refine⟨_,rfl,go_of (s:={ s with heap:=h',toks:=tk }) (n:="range_iterator") st' rfl rfl (by decide) ⟨.int (lo+i),H,I1,⟨t,?_⟩,⟨rfl,rfl⟩,st',fun b hb=>(hf b hb).1⟩⟩
  rw[Int.mul_one]
 done:=by
  intro X hP hw hK hc i pins s σ H E I hf st hg
  subst hP hw hK
  obtain⟨f0,f1,f2,f3,f4,f5⟩:=hf it (by simp)
  exact wpAny_pyNext_range_end (I.ok.hd hc) st (by have:n<=i:=hg; omega) fun h' eb=>⟨rfl,I.turned (t':=s.toks) (fun b o hb e=>eb b o hb e) f0 f1 f3 f4 f5⟩
 self:=fun _ _ _ _ _ st h=>wpAny_pyIter_rangeiter st h
end L2
namespace L2
open PySem PySem.Spec PyProof.Rows
section
variable {X:Cx} {tg:Expr}
def iList (K:PySem.W.Frag) (tl:TE):TI:=fun σ H R=>tl σ H fun x H1=>∃ a,x = .ref a/\(∃ xs,SqL K H1 a xs)/\R (Itl K a) H1
def iTup (K:PySem.W.Frag) (tl:TE):TI:=fun σ H R=>tl σ H fun x H1=>∃ a,x = .ref a/\(∃ xs,SqT K H1 a xs)/\R (Itt K a) H1
theorem pi_list {l:Expr} {tl:TE} (hl:PE X l tl):PI X tg l (iList X.K tl):=by
 intro pins s σ H R I h
 refine thn (hl pins s σ H _ I h) fun v s1 ⟨x,H1,I1,r1,q1⟩=>?_
 obtain⟨a,e,⟨xs,hq⟩,q⟩:=q1
 subst e
 cases r1
 obtain⟨its,rv,p,hz⟩:=I1.list hq
 refine wpAny_pyIter_list p.isList ?_
 refine⟨s1.heap.objs.size,[s1.heap.objs.size],_,_,H1,rfl,I1.kept (t':=s1.toks) fun b o e=>Heap.get?_push_of_some _ e,turn_list a _,⟨_,Heap.get?_push_size _ rfl,rfl,rfl⟩,fun b hb=>?_,q⟩
 have e:b=s1.heap.objs.size:=by simpa using hb
 subst e
 exact I1.fpOk (Nat.le_refl _) (I1.hok.fresh (Nat.le_refl _))
theorem pi_tup {l:Expr} {tl:TE} (hl:PE X l tl):PI X tg l (iTup X.K tl):=by
 intro pins s σ H R I h
 refine thn (hl pins s σ H _ I h) fun v s1 ⟨x,H1,I1,r1,q1⟩=>?_
 obtain⟨a,e,⟨xs,hq⟩,q⟩:=q1
 subst e
 cases r1
 obtain⟨its,rv,p,hz⟩:=I1.tuple hq
 refine wpAny_pyIter_tuple (show s1.heap.IsTuple a its.toArray from p) ?_
 refine⟨s1.heap.objs.size,[s1.heap.objs.size],_,_,H1,rfl,I1.kept (t':=s1.toks) fun b o e=>Heap.get?_push_of_some _ e,turn_tuple a _,⟨_,Heap.get?_push_size _ rfl,rfl,rfl⟩,fun b hb=>?_,q⟩
 have e:b=s1.heap.objs.size:=by simpa using hb
 subst e
 exact I1.fpOk (Nat.le_refl _) (I1.hok.fresh (Nat.le_refl _))
theorem range_it {pins:List (Addr × Obj)} {σ : St} {H:Hp} {s:Shared} {R:It->Hp->Prop} {E:Value->Shared->Prop} {lo hi:Int} {t u v:Tok} {tk:Nat} (I:Inv X pins σ H s) (h1:-(2 ^ 62)<=lo) (h2:lo<2 ^ 62) (h3:-(2 ^ 62)<=hi) (h4:hi<2 ^ 62)
  (q:R (Itr lo (hi - lo).toNat) H):wpAny (model X.prog X.w) X.A (pyIter (.ref s.heap.objs.size)) (PIE X pins σ tg R) E { s with heap:=s.heap.push { cls:=.type "range",data:=.fields #[.int lo t,.int hi u,.int 1 v] },toks:=tk }:=by
 refine wpAny_pyIter_range (IsRange.new ..) (small_one h1 h2 h3 h4) ?_
 have I1:Inv X pins σ H { s with heap:=s.heap.push { cls:=.type "range",data:=.fields #[.int lo t,.int hi u,.int 1 v] },toks:=tk }:=I.kept fun b o e=>Heap.get?_push_of_some _ e
 refine⟨(s.heap.push { cls:=.type "range",data:=.fields #[.int lo t,.int hi u,.int 1 v] }).objs.size,[(s.heap.push { cls:=.type "range",data:=.fields #[.int lo t,.int hi u,.int 1 v] }).objs.size],_,_,H,rfl,
  I1.kept (t':=tk) fun b o e=>Heap.get?_push_of_some _ e,turn_range _ lo (hi - lo).toNat,?_,fun b hb=>?_,q⟩
 ·have e1:lo+((0:Nat):Int) * 1=lo:=by simp
  have e2:(((hi - lo).toNat:Nat):Int) - ((0:Nat):Int)=Builtin.Range.rangeSize lo hi 1:=by rw[rangeSize_one]; split <;> omega
  show IsRangeIter _ _ (lo+((0:Nat):Int) * 1) ((((hi - lo).toNat:Nat):Int) - ((0:Nat):Int)) 1
  rw[e1,e2]
  exact Heap.get?_push_size _ rfl
 ·have e:b=(s.heap.push { cls:=.type "range",data:=.fields #[.int lo t,.int hi u,.int 1 v] }).objs.size:=by simpa using hb
  subst e
  exact I1.fpOk (Nat.le_refl _) (I1.hok.fresh (Nat.le_refl _))
def iRng1 (ta:TA):TI:=fun σ H R=>ta σ H fun vs H1=>∃ j:Int,vs=[.int j]/\-(2 ^ 62)<=j/\j<2 ^ 62/\R (Itr 0 j.toNat) H1
theorem pi_range1 {a:Expr} {ta:TA} {p pos:Pos} (hg:Gl X "range") (hm:X.mg "range" = none) (ha:PA X [a] ta) (hs:starEach [a] X.env=[(false,eval a X.env)]:=by rfl):PI X tg (.Call (.Name "range" p) [a] [] pos) (iRng1 ta):=by
 intro pins s σ H R I h
 refine Call_ (ld_blt I hg hm boot_range (PyProof.Rows.callWith_type1 (thn (ha pos pins s σ H _ I h) fun us s1 ⟨vs,H1,I1,r1,q1⟩=>?_) hs rfl))
 obtain⟨j,e,q1,q2,q⟩:=q1
 subst e
 cases r1 with
 | cons r rr=>
  cases rr
  obtain⟨t,rfl⟩:=r
  exact call_range_1 (range_it I1 (by omega) (by omega) q1 q2 (by simpa using q))
def tFor (wi:TI) (g:TG) (tb:TS):TS:=fun D σ H=>wi σ H fun J H1=>∃ W:Nat->Nat->St->Hp->Prop,(∃ m,W 0 m σ H1)/\∀ i m σ H,W i m σ H->
 (J.stop i H/\D.nx σ H)\/(J.go i H/\∃ N:St->Hp->Prop,(∀ σ' H',N σ' H'->∃ m',m'<m/\W (i+1) m' σ' H')/\∀ x H',J.yld i H x H'->g x σ H' fun σ2 H2=>tb { D with nx:=N,ct:=N,bk:=D.nx } σ2 H2)
def pinsAt (fp:List Addr) (h:Heap):List (Addr × Obj):=fp.filterMap fun b=>(h.get? b).map fun o=>(b,o)
theorem mem_pinsAt {fp:List Addr} {h:Heap} {b:Addr} {o:Obj} (hb:b∈fp) (e:h.get? b=some o):(b,o)∈pinsAt fp h:=List.mem_filterMap.mpr ⟨b,hb,by rw[e]; rfl⟩
theorem of_pinsAt {fp:List Addr} {h:Heap} {p:Addr × Obj} (hp:p∈pinsAt fp h):p.1∈fp/\h.get? p.1=some p.2:=by
 obtain⟨b,hb,e⟩:=List.mem_filterMap.mp hp
 cases q:h.get? b with
 | none=>rw[q]at e; cases e
 | some o=>
  rw[q]at e
  have e':(b,o)=p:=Option.some.inj e
  subst e'
  exact⟨hb,q⟩
theorem Inv.pinned {pins:List (Addr × Obj)} {σ : St} {H:Hp} {s:Shared} {fp:List Addr} (I:Inv X pins σ H s) (hf:∀ b∈fp,FpOk X pins H b) (ho:∀ b∈fp,∃ o,s.heap.get? b=some o/\∀ v,o.data ≠ .cell v):Inv X (pins++pinsAt fp s.heap) σ H s:=
 I.pins_of fun p hp=>(List.mem_append.mp hp).elim (fun z=>I.pin p (List.mem_append_right _ z)) fun z=>by
  obtain⟨hb,e⟩:=of_pinsAt z
  obtain⟨f0,f1,f2,_⟩:=hf p.1 hb
  obtain⟨o,e',d⟩:=ho p.1 hb
  rw[e]at e'; cases e'
  exact⟨e,f0,f1,f2,d⟩
theorem Inv.unpinned {pins pl:List (Addr × Obj)} {σ : St} {H:Hp} {s:Shared} (I:Inv X (pins++pl) σ H s):Inv X pins σ H s:=I.pins_of fun p hp=>I.pin p (List.mem_append_right _ (List.mem_append_left _ hp))
theorem ps_for {iter:Expr} {body:List Stmt} {wi:TI} {g:TG} {tb:TS} {pos:Pos} (hp:PassesOwn (model X.prog X.w) X.A X.env X.xe) (hc:X.calm=true) (hi:PI X tg iter wi) (hg:PG X tg g) (hb:PSs X body tb)
  (hs:∀ x,foldedSetIterable iter X.env x=pure x:=by intro _; rfl):PS X (.For tg iter body [] pos) (tFor wi g tb):=by
 intro pins s σ H D I h
 refine wpAny_For (thn (hi pins s σ H _ I h) fun v s1 h1=>thn h1 fun itv s2 h2=>?_) hs
 obtain⟨it,fp,tn,J,H2,e,I2,T,st2,f2,W,⟨m0,w0⟩,turn⟩:=h2
 subst e
 -- what stays true of the iterator's objects through the loop
 have stat:∀ {H':Hp},(∀ b∈fp,H' b=none)->∀ b∈fp,FpOk X pins H' b:=fun hn b hb=>⟨hn b hb,(f2 b hb).2⟩
 refine codeAny_forLoop_any (fun n s'=>∃ i σ' H',Inv X pins σ' H' s'/\tn i s'.heap/\(∀ b∈fp,H' b=none)/\W i n σ' H') ?_ m0 ⟨0,σ,H2,I2,st2,fun b hb=>(f2 b hb).1,w0⟩
 rintro n s3 ⟨i,σ3,H3,I3,st3,fr3,w3⟩
 rcases turn i n σ3 H3 w3 with ⟨stop,qn⟩ | ⟨go,N,hN,step⟩
 ·refine wpAny_passesOwn hp (thn (T.done X rfl rfl rfl hc i pins s3 σ3 H3 X.xe I3 (stat fr3) st3 stop) fun r s4 ⟨hr,I4⟩=>?_)
  subst hr
  exact wpAny_execs_nil ⟨σ3,H3,I4,qn⟩
 ·refine wpAny_passesOwn hp (thn (T.item X rfl rfl rfl hc i pins s3 σ3 H3 X.xe I3 (stat fr3) st3 go) fun r s4 ⟨u,hr,h4⟩=>?_)
  subst hr
  refine wpAny_passesOwn hp (thn h4 fun _ s5 ⟨x,H5,I5,r5,y5,st5,fr5⟩=>?_)
  have I5':=I5.pinned (stat fr5) (T.obj _ _ st5)
  refine wpAny_passesOwn hp (thn (hg _ s5 σ3 H5 x u _ I5' r5 (step x H5 y5)) fun _ s6 ⟨σ6,H6,I6,q6⟩=>?_)
  refine wpAny_passesOwn hp (thn (hb _ s6 σ6 H6 _ I6 q6) fun f s7 q7=>?_)
  have again:∀ {σ7:St} {H7:Hp},Inv X (pins++pinsAt fp s5.heap) σ7 H7 s7->N σ7 H7->∃ m,m<n/\∃ i σ' H',Inv X pins σ' H' s7/\tn i s7.heap/\(∀ b∈fp,H' b=none)/\W i m σ' H':=fun {σ7 H7} I7 n7=>by
   obtain⟨m',hm,w7⟩:=hN σ7 H7 n7
   refine⟨m',hm,i+1,σ7,H7,I7.unpinned,T.keep _ _ _ st5 fun b hb o e=>(I7.pin (b,o) (List.mem_append_right _ (List.mem_append_right _ (mem_pinsAt hb e)))).1,fun b hb=>?_,w7⟩
   obtain⟨o,e,d⟩:=T.obj _ _ st5 b hb
   exact(I7.pin (b,o) (List.mem_append_right _ (List.mem_append_right _ (mem_pinsAt hb e)))).2.1
  cases f with
  | next=>obtain⟨σ7,H7,I7,n7⟩:=q7; exact again I7 n7
  | cont=>obtain⟨σ7,H7,I7,n7⟩:=q7; exact again I7 n7
  | brk=>obtain⟨σ7,H7,I7,q7⟩:=q7; exact⟨σ7,H7,I7.unpinned,q7⟩
  | ret v=>obtain⟨x7,σ7,H7,I7,r7,q7⟩:=q7; exact⟨x7,σ7,H7,I7.unpinned,r7,q7⟩
end
end L2
namespace L2
open PySem PySem.Spec PyProof.Rows
abbrev R2:=V->V->Hp->VK->Prop
def OpR (X:Cx) (f:Value->Value->Sem Value) (r:R2):Prop:=
 ∀ (pins:List (Addr × Obj)) (s:Shared) (σ : St) (H:Hp) (x y:V) (v u:Value) (Q:VK),Inv X pins σ H s->RelV x v->RelV y u->r x y H Q->
  wpAny (model X.prog X.w) X.A (f v u) (EP X pins σ Q) X.xe s
def UnR (X:Cx) (f:Value->Sem Value) (r:V->Hp->VK->Prop):Prop:=
 ∀ (pins:List (Addr × Obj)) (s:Shared) (σ : St) (H:Hp) (x:V) (v:Value) (Q:VK),Inv X pins σ H s->RelV x v->r x H Q->
  wpAny (model X.prog X.w) X.A (f v) (EP X pins σ Q) X.xe s
def CallR (X:Cx) (f:Value) (r:List V->Hp->VK->Prop):Prop:=
 ∀ (pins:List (Addr × Obj)) (s:Shared) (σ : St) (H:Hp) (xs:List V) (us:List Value) (Q:VK),Inv X pins σ H s->Vals xs us->r xs H Q->
  wpAny (model X.prog X.w) X.A (call f us) (EP X pins σ Q) X.xe s
def TruR (X:Cx) (r:V->Hp->(Bool->Hp->Prop)->Prop):Prop:=
 ∀ (pins:List (Addr × Obj)) (s:Shared) (σ : St) (H:Hp) (x:V) (v:Value) (Q:Bool->Hp->Prop),Inv X pins σ H s->RelV x v->r x H Q->
  wpAny (model X.prog X.w) X.A (truthy v) (TP X pins σ Q) X.xe s
def tOp (r:R2) (ta tb:TE):TE:=fun σ H Q=>ta σ H fun x H1=>tb σ H1 fun y H2=>r x y H2 Q
def tUn (r:V->Hp->VK->Prop) (ta:TE):TE:=fun σ H Q=>ta σ H fun x H1=>r x H1 Q
def rI (C:Int->Int->Prop) (g:Int->Int->V):R2:=fun x y H Q=>∃ i j,x = .int i/\y = .int j/\C i j/\Q (g i j) H
def rI0 (g:Int->Int->V):R2:=fun x y H Q=>∃ i j,x = .int i/\y = .int j/\Q (g i j) H
def rU (g:Int->V):V->Hp->VK->Prop:=fun x H Q=>∃ i,x = .int i/\Q (g i) H
section
variable {X:Cx} {a b c:Expr} {ta tb tc:TE} {pos:Pos}
theorem binT (ha:PE X a ta) (hb:PE X b tb) {pins:List (Addr × Obj)} {s:Shared} {σ : St} {H:Hp} {R:V->V->Hp->Prop} (I:Inv X pins σ H s)
  (h:ta σ H fun x H1=>tb σ H1 fun y H2=>R x y H2) {Q:Value->Shared->Prop} {f:Value->Value->Sem Value}
  (hf:∀ v u s2 x y H2,Inv X pins σ H2 s2->RelV x v->RelV y u->R x y H2->wpAny (model X.prog X.w) X.A (f v u) Q X.xe s2) :
  wpAny (model X.prog X.w) X.A (eval a X.env) (fun v s₁=>wpAny (model X.prog X.w) X.A (eval b X.env) (fun u s₂=>wpAny (model X.prog X.w) X.A (f v u) Q X.xe s₂) X.xe s₁) X.xe s:=by
 refine thn (ha pins s σ H _ I h) fun v s1 ⟨x,H1,I1,r1,q1⟩=>?_
 refine thn (hb pins s1 σ H1 _ I1 q1) fun u s2 ⟨y,H2,I2,r2,q2⟩=>?_
 exact hf v u s2 x y H2 I2 r1 r2 q2
theorem pe_op {op:Operator} {r:R2} (ho:OpR X (binaryOp op) r) (ha:PE X a ta) (hb:PE X b tb):PE X (.BinOp a op b pos) (tOp r ta tb):=by
 intro pins s σ H Q I h
 exact wpAny_BinOp (binT ha hb I h fun v u s2 x y H2 I2 rx ry q=>ho pins s2 σ H2 x y v u Q I2 rx ry q)
theorem pe_un {op:UnaryOp} {r:V->Hp->VK->Prop} (ho:UnR X (unaryOp op) r) (ha:PE X a ta):PE X (.UnaryOp op a pos) (tUn r ta):=by
 intro pins s σ H Q I h
 exact UnaryOp_ (thn (ha pins s σ H _ I h) fun v s1 ⟨x,H1,I1,r1,q1⟩=>ho pins s1 σ H1 x v Q I1 r1 q1)
theorem opI {f:Value->Value->Sem Value} {C:Int->Int->Prop} {g:Int->Int->Int}
  (rule:∀ (i j:Int) (t u:Tok) (s:Shared) (Q:Value->Shared->Prop) (E:Value->Shared->Prop),C i j->Q (.int (g i j) s.toks) { s with toks:=s.toks+1 }->wpAny (model X.prog X.w) X.A (f (.int i t) (.int j u)) Q E s) :
  OpR X f (rI C fun i j=>.int (g i j)):=by
 intro pins s σ H x y v u Q I rx ry h
 obtain⟨i,j,rfl,rfl,hc,q⟩:=h
 obtain⟨t,rfl⟩:=rx
 obtain⟨t',rfl⟩:=ry
 exact rule i j t t' s _ _ hc ⟨.int (g i j),H,I.tok _,⟨_,rfl⟩,q⟩
theorem opI0 {f:Value->Value->Sem Value} {g:Int->Int->Int}
  (rule:∀ (i j:Int) (t u:Tok) (s:Shared) (Q:Value->Shared->Prop) (E:Value->Shared->Prop),Q (.int (g i j) s.toks) { s with toks:=s.toks+1 }->wpAny (model X.prog X.w) X.A (f (.int i t) (.int j u)) Q E s) :
  OpR X f (rI0 fun i j=>.int (g i j)):=by
 intro pins s σ H x y v u Q I rx ry h
 obtain⟨i,j,rfl,rfl,q⟩:=h
 obtain⟨t,rfl⟩:=rx
 obtain⟨t',rfl⟩:=ry
 exact rule i j t t' s _ _ ⟨.int (g i j),H,I.tok _,⟨_,rfl⟩,q⟩
theorem opB0 {f:Value->Value->Sem Value} {g:Int->Int->Bool}
  (rule:∀ (i j:Int) (t u:Tok) (s:Shared) (Q:Value->Shared->Prop) (E:Value->Shared->Prop),Q (.bool (g i j)) s->wpAny (model X.prog X.w) X.A (f (.int i t) (.int j u)) Q E s) :
  OpR X f (rI0 fun i j=>.bl (g i j)):=by
 intro pins s σ H x y v u Q I rx ry h
 obtain⟨i,j,rfl,rfl,q⟩:=h
 obtain⟨t,rfl⟩:=rx
 obtain⟨t',rfl⟩:=ry
 exact rule i j t t' s _ _ ⟨.bl (g i j),H,I,rfl,q⟩
def CDiv (i j:Int):Prop:=0<j/\j<1073741824
def CPow (i j:Int):Prop:=0<=j/\j<=1000000/\i.natAbs<2 ^ 64
def CMul (i j:Int):Prop:=(-(2 ^ 64)<i/\i<2 ^ 64)\/(-(2 ^ 64)<j/\j<2 ^ 64)
theorem CMul.ok {i j:Int} (h:CMul i j):IntMulOk i j:=by
 rcases h with ⟨h1,h2⟩ | ⟨h1,h2⟩
 ·exact .of_left (intBits_le_64 h1 h2)
 ·exact .of_right (intBits_le_64 h1 h2)
theorem op_add:OpR X (binaryOp .Add) (rI0 fun i j=>.int (i+j)):=opI0 fun _ _ _ _ _ _ _ q=>add_int q
theorem op_sub:OpR X (binaryOp .Sub) (rI0 fun i j=>.int (i - j)):=opI0 fun _ _ _ _ _ _ _ q=>sub_int q
theorem op_mul:OpR X (binaryOp .Mult) (rI CMul fun i j=>.int (i * j)):=opI fun _ _ _ _ _ _ _ hc q=>mul_int q hc.ok
theorem op_fdiv:OpR X (binaryOp .FloorDiv) (rI CDiv fun i j=>.int (i / j)):=opI fun i j _ _ _ _ _ hc q=>by
 have h1:(0:Int)<j:=hc.1
 have h2:j<1073741824:=hc.2
 exact floordiv_int (by omega) (by rw[Int.fdiv_eq_ediv_of_nonneg i (by omega)]; exact q) (.inl (PyProof.noPylong_small (by omega)))
theorem op_mod:OpR X (binaryOp .Mod) (rI (fun _ j=>0<j) fun i j=>.int (i % j)):=opI fun i j _ _ _ _ _ hc q=>by
 have h1:(0:Int)<j:=hc
 exact mod_int' (by omega) (by rw[Int.fmod_eq_emod_of_nonneg i (by omega)]; exact q)
theorem op_pow:OpR X (binaryOp .Pow) (rI CPow fun i j=>.int (i ^ j.toNat)):=opI fun _ _ _ _ _ _ _ hc q=>pow_int_small hc.1 hc.2.1 hc.2.2 q
theorem unI {f:Value->Sem Value} {g:Int->Int}
  (rule:∀ (i:Int) (t:Tok) (s:Shared) (Q:Value->Shared->Prop) (E:Value->Shared->Prop),Q (.int (g i) s.toks) { s with toks:=s.toks+1 }->wpAny (model X.prog X.w) X.A (f (.int i t)) Q E s) :
  UnR X f (rU fun i=>.int (g i)):=by
 intro pins s σ H x v Q I rx h
 obtain⟨i,rfl,q⟩:=h
 obtain⟨t,rfl⟩:=rx
 exact rule i t s _ _ ⟨.int (g i),H,I.tok _,⟨_,rfl⟩,q⟩
theorem un_neg:UnR X (unaryOp .USub) (rU fun i=>.int (-i)):=unI fun _ _ _ _ _ q=>neg_int q
end
def scal:V->V->Bool
 | .non,.non=>true | .non,.int _=>true | .int _,.non=>true | .non,.bl _=>true | .bl _,.non=>true | .non,.str _=>true | .str _,.non=>true
 | .int _,.int _=>true | .bl _,.bl _=>true | .str _,.str _=>true | .byt _,.byt _=>true
 | .int _,.str _=>true | .str _,.int _=>true | .bl _,.str _=>true | .str _,.bl _=>true
 | _,_=>false
def rEq:R2:=fun x y H Q=>scal x y=true/\Q (.bl (decide (x=y))) H
def rNe:R2:=fun x y H Q=>scal x y=true/\Q (.bl (!decide (x=y))) H
theorem dec_int {i j:Int}:decide (V.int i=V.int j)=(i == j):=by
 rw[Bool.eq_iff_iff]
 simp
theorem dec_bl {i j:Bool}:decide (V.bl i=V.bl j)=(i == j):=by
 rw[Bool.eq_iff_iff]
 simp
theorem dec_str {i j:Str}:decide (V.str i=V.str j)=(i == j):=by
 rw[Bool.eq_iff_iff]
 simp
theorem dec_byt {i j:Array UInt8}:decide (V.byt i=V.byt j)=(i.toList == j.toList):=by
 rw[Bool.eq_iff_iff]
 cases i
 cases j
 simp
section
variable {X:Cx} {a b c:Expr} {ta tb tc:TE} {pos:Pos}
theorem fin_bl {pins:List (Addr × Obj)} {σ : St} {H:Hp} {s:Shared} {Q:VK} {k k':Bool} (I:Inv X pins σ H s) (q:Q (.bl k) H) (e:k=k'):EP X pins σ Q (.bool k') s:=by
 subst e
 exact⟨.bl k,H,I,rfl,q⟩
theorem op_eq:OpR X (compareOp .Eq) rEq:=by
 intro pins s σ H x y v u Q I rx ry h
 obtain⟨hs,q⟩:=h
 cases x with
 | non=>
  cases rx
  cases y with
  | non=>cases ry; exact PySem.EqNone.eq_none_none (fin_bl I q (by simp))
  | bl j=>cases ry; exact PySem.EqNone.eq_none_bool (fin_bl I q (by simp))
  | int j=>obtain⟨t',rfl⟩:=ry; exact PySem.EqNone.eq_none_int (fin_bl I q (by simp))
  | str j=>obtain⟨t',rfl⟩:=ry; exact PySem.EqNone.eq_none_str (fin_bl I q (by simp))
  | _=>exact absurd (show false=true from hs) Bool.false_ne_true
 | bl i=>
  cases rx
  cases y with
  | non=>cases ry; exact PySem.EqNone.eq_bool_none (fin_bl I q (by simp))
  | bl j=>cases ry; exact eq_bool (fin_bl I q dec_bl)
  | str j=>obtain⟨t',rfl⟩:=ry; exact PySem.EqMixed.eq_bool_str (fin_bl I q (by simp))
  | _=>exact absurd (show false=true from hs) Bool.false_ne_true
 | int i=>
  obtain⟨t,rfl⟩:=rx
  cases y with
  | non=>cases ry; exact PySem.EqNone.eq_int_none (fin_bl I q (by simp))
  | int j=>obtain⟨t',rfl⟩:=ry; exact eq_int (fin_bl I q dec_int)
  | str j=>obtain⟨t',rfl⟩:=ry; exact PySem.EqMixed.eq_int_str (fin_bl I q (by simp))
  | _=>exact absurd (show false=true from hs) Bool.false_ne_true
 | str i=>
  obtain⟨t,rfl⟩:=rx
  cases y with
  | non=>cases ry; exact PySem.EqNone.eq_str_none (fin_bl I q (by simp))
  | bl j=>cases ry; exact PySem.EqMixed.eq_str_bool (fin_bl I q (by simp))
  | int j=>obtain⟨t',rfl⟩:=ry; exact PySem.EqMixed.eq_str_int (fin_bl I q (by simp))
  | str j=>obtain⟨t',rfl⟩:=ry; exact eq_str (fin_bl I q dec_str)
  | _=>exact absurd (show false=true from hs) Bool.false_ne_true
 | byt i=>
  obtain⟨t,rfl⟩:=rx
  cases y with
  | byt j=>obtain⟨t',rfl⟩:=ry; exact PySem.W.eq_bytes (fin_bl I q dec_byt)
  | _=>exact absurd (show false=true from hs) Bool.false_ne_true
 | _=>cases y <;> exact absurd (show false=true from hs) Bool.false_ne_true
theorem op_ne:OpR X (compareOp .NotEq) rNe:=by
 intro pins s σ H x y v u Q I rx ry h
 obtain⟨hs,q⟩:=h
 cases x with
 | non=>
  cases rx
  cases y with
  | non=>cases ry; exact PySem.EqNone.ne_none_none (fin_bl I q (by simp))
  | bl j=>cases ry; exact PySem.EqNone.ne_none_bool (fin_bl I q (by simp))
  | int j=>obtain⟨t',rfl⟩:=ry; exact PySem.EqNone.ne_none_int (fin_bl I q (by simp))
  | str j=>obtain⟨t',rfl⟩:=ry; exact PySem.EqNone.ne_none_str (fin_bl I q (by simp))
  | _=>exact absurd (show false=true from hs) Bool.false_ne_true
 | bl i=>
  cases rx
  cases y with
  | non=>cases ry; exact PySem.EqNone.ne_bool_none (fin_bl I q (by simp))
  | bl j=>cases ry; exact ne_bool (fin_bl I q (congrArg not dec_bl))
  | str j=>obtain⟨t',rfl⟩:=ry; exact PySem.EqMixed.ne_bool_str (fin_bl I q (by simp))
  | _=>exact absurd (show false=true from hs) Bool.false_ne_true
 | int i=>
  obtain⟨t,rfl⟩:=rx
  cases y with
  | non=>cases ry; exact PySem.EqNone.ne_int_none (fin_bl I q (by simp))
  | int j=>obtain⟨t',rfl⟩:=ry; exact ne_int (fin_bl I q (congrArg not dec_int))
  | str j=>obtain⟨t',rfl⟩:=ry; exact PySem.EqMixed.ne_int_str (fin_bl I q (by simp))
  | _=>exact absurd (show false=true from hs) Bool.false_ne_true
 | str i=>
  obtain⟨t,rfl⟩:=rx
  cases y with
  | non=>cases ry; exact PySem.EqNone.ne_str_none (fin_bl I q (by simp))
  | bl j=>cases ry; exact PySem.EqMixed.ne_str_bool (fin_bl I q (by simp))
  | int j=>obtain⟨t',rfl⟩:=ry; exact PySem.EqMixed.ne_str_int (fin_bl I q (by simp))
  | str j=>obtain⟨t',rfl⟩:=ry; exact ne_str (fin_bl I q (congrArg not dec_str))
  | _=>exact absurd (show false=true from hs) Bool.false_ne_true
 | byt i=>
  obtain⟨t,rfl⟩:=rx
  cases y with
  | byt j=>obtain⟨t',rfl⟩:=ry; exact PySem.W.ne_bytes (fin_bl I q (congrArg not dec_byt))
  | _=>exact absurd (show false=true from hs) Bool.false_ne_true
 | _=>cases y <;> exact absurd (show false=true from hs) Bool.false_ne_true
theorem op_lt:OpR X (compareOp .Lt) (rI0 fun i j=>.bl (decide (i<j))):=opB0 fun _ _ _ _ _ _ _ q=>lt_int q
theorem op_le:OpR X (compareOp .LtE) (rI0 fun i j=>.bl (decide (i<=j))):=opB0 fun _ _ _ _ _ _ _ q=>le_int q
theorem op_gt:OpR X (compareOp .Gt) (rI0 fun i j=>.bl (decide (j<i))):=opB0 fun _ _ _ _ _ _ _ q=>gt_int q
theorem op_ge:OpR X (compareOp .GtE) (rI0 fun i j=>.bl (decide (j<=i))):=opB0 fun _ _ _ _ _ _ _ q=>ge_int q
theorem op_in_str:OpR X (compareOp .In) (fun x y H Q=>∃ i j,x = .str i/\y = .str j/\Q (.bl (!(Builtin.Str.occurrences j i 0 j.length 1).isEmpty)) H):=by
 intro pins s σ H x y v u Q I rx ry h
 obtain⟨i,j,rfl,rfl,q⟩:=h
 obtain⟨t,rfl⟩:=rx
 obtain⟨t',rfl⟩:=ry
 exact in_str (fin_bl I q rfl)
theorem op_notN:OpR X (compareOp .IsNot) (fun x y H Q=>y = .non/\Q (.bl (!decide (x = .non))) H):=by
 intro pins s σ H x y v u Q I rx ry h
 obtain⟨rfl,q⟩:=h
 cases ry
 refine isnot_none_gen (fin_bl I q ?_)
 cases x <;> first
  | (cases rx; rfl)
  | (obtain⟨t,rfl⟩:=rx; rfl)
theorem nomark (b:Expr) {op:CmpOp} (h:op ≠ .In:=by decide) (h2:op ≠ .NotIn:=by decide):behindInMarks op b=false:=by
 have e1:(op == CmpOp.In)=false:=by cases op <;> first | rfl | exact absurd rfl h
 have e2:(op == CmpOp.NotIn)=false:=by cases op <;> first | rfl | exact absurd rfl h2
 cases b <;> simp [behindInMarks,e1,e2]
theorem pe_cmpR {op:CmpOp} {r:R2} (ho:OpR X (compareOp op) r) (ha:PE X a ta) (hb:PE X b tb) (hm:behindInMarks op b=false):PE X (.Compare a [op] [b] pos) (tOp r ta tb):=by
 intro pins s σ H Q I h
 exact wpAny_Compare1 (binT ha hb I h fun v u s2 x y H2 I2 rx ry q=>ho pins s2 σ H2 x y v u Q I2 rx ry q) hm
def tTest (t:TE):TT:=fun σ H Q=>t σ H fun x H'=>∃ k,x = .bl k/\Q k H'
theorem pt_cmpR {op:CmpOp} {r:R2} (ho:OpR X (compareOp op) r) (ha:PE X a ta) (hb:PE X b tb) (hm:behindInMarks op b=false):PT X (.Compare a [op] [b] pos) (tTest (tOp r ta tb)):=by
 intro pins s σ H Q I h
 refine wpAny_isTrue_Compare1 (thn (ha pins s σ H _ I h) fun v s1 ⟨x,H1,I1,r1,q1⟩=>thn (hb pins s1 σ H1 _ I1 q1) fun u s2 ⟨y,H2,I2,r2,q2⟩=>
  thn (ho pins s2 σ H2 x y v u _ I2 r1 r2 q2) fun c s3 ⟨z,H3,I3,r3,k,e,q3⟩=>?_) hm
 subst e
 cases r3
 exact wpAny_truthy_bool ⟨H3,I3,q3⟩
def tChain (r r':R2) (ta tb tc:TE):TE:=fun σ H Q=>ta σ H fun x H1=>tb σ H1 fun y H2=>r x y H2 fun z H3=>∃ k,z = .bl k/\
 (if k=true then tc σ H3 fun w' H4=>r' y w' H4 Q else Q (.bl false) H3)
theorem pe_chain {op op':CmpOp} {r r':R2} (ho:OpR X (compareOp op) r) (ho':OpR X (compareOp op') r') (ha:PE X a ta) (hb:PE X b tb) (hc:PE X c tc)
  (hm:lastMarks [op,op'] [b,c]=false:=by with_unfolding_all rfl):PE X (.Compare a [op,op'] [b,c] pos) (tChain r r' ta tb tc):=by
 intro pins s σ H Q I h
 refine Compare_chain (thn (ha pins s σ H _ I h) fun v s1 ⟨x,H1,I1,r1,q1⟩=>chain_link (thn (hb pins s1 σ H1 _ I1 q1) fun u s2 ⟨y,H2,I2,r2,q2⟩=>
  thn (ho pins s2 σ H2 x y v u _ I2 r1 r2 q2) fun d s3 ⟨z,H3,I3,r3,k,e,q3⟩=>?_)) hm
 subst e
 cases r3
 refine wpAny_truthy_bool ?_
 cases k with
 | false=>exact ite_ff ⟨.bl false,H3,I3,rfl,q3⟩
 | true=>exact ite_tt (chain_last (thn (hc pins s3 σ H3 _ I3 q3) fun w' s4 ⟨z',H4,I4,r4,q4⟩=>ho' pins s4 σ H4 y z' u w' Q I4 r2 r4 q4))
theorem pt_chain {op op':CmpOp} {r r':R2} (ho:OpR X (compareOp op) r) (ho':OpR X (compareOp op') r') (ha:PE X a ta) (hb:PE X b tb) (hc:PE X c tc)
  (hm:lastMarks [op,op'] [b,c]=false:=by with_unfolding_all rfl):PT X (.Compare a [op,op'] [b,c] pos) (tTest (tChain r r' ta tb tc)):=by
 intro pins s σ H Q I h
 refine isTrue_chain (thn (ha pins s σ H _ I h) fun v s1 ⟨x,H1,I1,r1,q1⟩=>test_link (thn (hb pins s1 σ H1 _ I1 q1) fun u s2 ⟨y,H2,I2,r2,q2⟩=>
  thn (ho pins s2 σ H2 x y v u _ I2 r1 r2 q2) fun d s3 ⟨z,H3,I3,r3,k,e,q3⟩=>?_)) hm
 subst e
 cases r3
 refine wpAny_truthy_bool ?_
 cases k with
 | false=>
  obtain⟨k',e',q'⟩:=q3
  cases e'
  exact ite_ff ⟨H3,I3,q'⟩
 | true=>
  refine ite_tt (test_last (thn (hc pins s3 σ H3 _ I3 q3) fun w' s4 ⟨z',H4,I4,r4,q4⟩=>thn (ho' pins s4 σ H4 y z' u w' _ I4 r2 r4 q4) fun d' s5 ⟨z2,H5,I5,r5,k2,e2,q5⟩=>?_))
  subst e2
  cases r5
  exact wpAny_truthy_bool ⟨H5,I5,q5⟩
def TruV (K:PySem.W.Frag) (x:V) (H:Hp) (k:Bool):Prop:=
 match x with
 | .non=>k=false
 | .bl b=>k=b
 | .int i=>k=(i != 0)
 | .str y=>y.length<=sizeLine/\k=((y.length:Int) != 0)
 | .byt y=>y.size<=sizeLine/\k=((y.size:Int) != 0)
 | .ref p=>(∃ xs,SqL K H p xs/\k = !xs.isEmpty)\/(∃ xs,SqT K H p xs/\k = !xs.isEmpty)\/∃ kvs,H p=some (.dK kvs)/\k = !kvs.isEmpty
 | _=>False
theorem isEmpty_kv {κ : Type} {kvs:List (κ × V)} {vs:List (κ × Value)} (r:KV kvs vs):(!vs.isEmpty) = !kvs.isEmpty:=by
 cases r <;> rfl
theorem isEmpty_of {xs:List V} {its:List Value} (r:Vals xs its):(!its.toArray.isEmpty) = !xs.isEmpty:=by
 cases r <;> simp
theorem line63:(sizeLine:Nat)<2 ^ 63:=by rw[sizeLine_eq]; decide
theorem tru_ok:TruR X (fun x H Q=>∃ k,TruV X.K x H k/\Q k H):=by
 intro pins s σ H x v Q I rx h
 obtain⟨k,e,q⟩:=h
 have hl:=line63
 have hs:sizeLine=16777216:=sizeLine_eq
 cases x with
 | non=>
  cases rx
  have e':k=false:=e
  subst e'
  exact truthy_none ⟨H,I,q⟩
 | bl b=>
  cases rx
  have e':k=b:=e
  subst e'
  exact wpAny_truthy_bool ⟨H,I,q⟩
 | int i=>
  obtain⟨t,rfl⟩:=rx
  have e':k=(i != 0):=e
  subst e'
  exact PySem.P.truthy_int ⟨H,I,q⟩
 | str y=>
  obtain⟨t,rfl⟩:=rx
  obtain⟨hy,e'⟩:y.length<=sizeLine/\k=((y.length:Int) != 0):=e
  subst e'
  exact PySem.P.truthy_str (by omega) ⟨H,I.tok _,q⟩
 | byt y=>
  obtain⟨t,rfl⟩:=rx
  obtain⟨hy,e'⟩:y.size<=sizeLine/\k=((y.size:Int) != 0):=e
  subst e'
  exact PySem.W.truthy_bytes (by omega) ⟨H,I.tok _,q⟩
 | ref p=>
  cases rx
  have e':(∃ xs,SqL X.K H p xs/\k = !xs.isEmpty)\/(∃ xs,SqT X.K H p xs/\k = !xs.isEmpty)\/∃ kvs,H p=some (.dK kvs)/\k = !kvs.isEmpty:=e
  rcases e' with ⟨xs,hx,e'⟩ | ⟨xs,hx,e'⟩ | ⟨kvs,hx,e'⟩
  ·subst e'
   obtain⟨its,r,pl,hz⟩:=I.list hx
   have hlen:=r.length
   exact wpAny_truthy_list pl.isList (by simp only[List.size_toArray]; omega) ⟨H,I.tok _,by rw[isEmpty_of r]; exact q⟩
  ·subst e'
   obtain⟨its,r,pl,hz⟩:=I.tuple hx
   have hlen:=r.length
   exact truthy_tuple pl (by simp only[List.size_toArray]; omega) ⟨H,I.tok _,by rw[isEmpty_of r]; exact q⟩
  ·subst e'
   obtain⟨hz,hS,vs,r,m⟩:kvs.length<=sizeLine/\(p == sysModules)=false/\∃ vs,KV kvs vs/\s.heap.DictOf (mixKind X.prog X.w) p vs:=I.hok p _ hx
   have hlen:kvs.length=vs.length:=Paired.length r
   exact wpAny_truthy_dict hS m (by omega) ⟨H,I.tok _,by rw[isEmpty_kv r]; exact q⟩
 | _=>exact(show False from e).elim
theorem vals1 {x:V} {us:List Value} (r:Vals [x] us):∃ u,us=[u]/\RelV x u:=by
 cases r with
 | cons r1 r2=>cases r2; exact⟨_,rfl,r1⟩
theorem vals2 {x y:V} {us:List Value} (r:Vals [x,y] us):∃ u w',us=[u,w']/\RelV x u/\RelV y w':=by
 cases r with
 | cons r1 r2=>
  cases r2 with
  | cons r3 r4=>cases r4; exact⟨_,_,rfl,r1,r3⟩
theorem call_max2 (hc:X.calm=true):CallR X (.builtin "max") (fun xs H Q=>∃ i j,xs=[.int i,.int j]/\Q (.int (if j > i then j else i)) H):=by
 intro pins s σ H xs us Q I r h
 obtain⟨i,j,rfl,q⟩:=h
 obtain⟨u,w',rfl,⟨t,rfl⟩,⟨t',rfl⟩⟩:=vals2 r
 refine max_two_ints (I.ok.hd hc) fun h' tk k=>⟨_,H,I.kept k,?_,q⟩
 by_cases hj:j > i
 ·rw[if_pos hj,if_pos hj]; exact⟨_,rfl⟩
 ·rw[if_neg hj,if_neg hj]; exact⟨_,rfl⟩
theorem call_min2 (hc:X.calm=true):CallR X (.builtin "min") (fun xs H Q=>∃ i j,xs=[.int i,.int j]/\Q (.int (if j<i then j else i)) H):=by
 intro pins s σ H xs us Q I r h
 obtain⟨i,j,rfl,q⟩:=h
 obtain⟨u,w',rfl,⟨t,rfl⟩,⟨t',rfl⟩⟩:=vals2 r
 refine min_two_ints (I.ok.hd hc) fun h' tk k=>⟨_,H,I.kept k,?_,q⟩
 by_cases hj:j<i
 ·rw[if_pos hj,if_pos hj]; exact⟨_,rfl⟩
 ·rw[if_neg hj,if_neg hj]; exact⟨_,rfl⟩
end
end L2
namespace L2
open PySem PySem.Spec PyProof.Rows
structure ObjM (h:Heap) (x dx C:Addr) (mA:Str->Option Value):Prop where
 obj:h.get? x=some (PySem.W.instObj C dx)
 ns:h.Ns1 dx mA
 ne:dx≠x
theorem lookIn_ns {h:Heap} {dx:Addr} {mA:Str->Option Value} (n:h.Ns1 dx mA):∃ od,h.get? dx=some od/\∀ name,PySem.W.lookIn name od=some (mA name):=by
 obtain⟨o,es,ep,ho,hd,hk,_,hm⟩:=n
 refine⟨o,ho,fun name=>?_⟩
 have e:=hm name
 unfold nsFind findBy at e
 rw[<- Array.find?_toList]at e
 unfold PySem.W.lookIn
 rw[hd]
 dsimp only
 split
 ·rename_i y q
  rw[q]at e
  exact congrArg some e
 ·rename_i q
  rw[q]at e
  have a:es.toList.any (·.refKey)=false:=by
   rw[List.any_eq_false]
   intro y hy
   obtain⟨z,t,hkey⟩:=hk y (Array.mem_toList_iff.mp hy)
   simp [DictEntry.refKey,hkey]
  have a':¬ es.toList.any (·.refKey)=true:=by rw[a]; exact Bool.false_ne_true
  rw[if_neg a']
  exact congrArg some e
theorem ObjM.look {h:Heap} {x dx C:Addr} {mA:Str->Option Value} (I:ObjM h x dx C mA):∃ od,PySem.W.InstAt h x (PySem.W.instObj C dx) C (some od)/\∀ name,PySem.W.lookIn name od=some (mA name):=
 let ⟨od,ho,hl⟩:=lookIn_ns I.ns
 ⟨od,⟨I.obj,rfl,rfl,ho⟩,hl⟩
section
variable {prog:Program} {w:World} {A:Around} {E:Value->Shared->Prop} {s:Shared} {K:PySem.W.Frag} {x dx C f:Addr} {mA:Str->Option Value} {name:Str} {v:Value}
theorem get_map {expr:Bool} {Q:Value->Shared->Prop} (X:K.In s.heap) (I:ObjM s.heap x dx C mA) (hg:PySem.W.plainGet K C name=true) (hh:PySem.W.hasDictIn K C=true)
  (ha:PySem.W.findIn K (.ref C) name=some none) (hv:mA name=some v) (hv':PySem.W.handedIn v=true) (h:Q v { s with toks:=s.toks+1 }) :
  wpAny (model prog w) A (getAttr (.ref x) name expr) Q E s:=by
 obtain⟨od,J,hl⟩:=I.look
 exact PySem.W.get_value X J (PySem.W.plainGet_of hg).1 (PySem.W.findObj_own hh ha rfl (by rw[hl,hv])) hv' h
theorem get_meth {pl:Sem Bool} {Q:Value × List Value->Shared->Prop} (X:K.In s.heap) (I:ObjM s.heap x dx C mA) (hg:PySem.W.plainGet K C name=true)
  (hf:PySem.W.findIn K (.ref C) name=some (some (.ref f))) (ht:PySem.W.isFn K (.ref f)=true) (hv:mA name=none) (h:Q (.ref f,[.ref x]) s) :
  wpAny (model prog w) A (getMethod (.ref x) name pl) Q E s:=by
 obtain⟨od,J,hl⟩:=I.look
 exact PySem.W.method_fn X J (PySem.W.plainGet_of hg).1 (PySem.W.plainGet_of hg).2 hf (beq_iff_eq.mp ht) (by show (PySem.W.lookIn name od).map (·.isSome)=some false; rw[hl,hv]; rfl) h
theorem set_map {ns:List Str} {Q:Unit->Shared->Prop} (X:K.In s.heap) (I:ObjM s.heap x dx C mA)
  (hs:PySem.W.findIn K (.ref C) "__setattr__" = some (some (.builtin "object.__setattr__"))) (hp:PySem.W.plainOver K C=true) (ht:PySem.W.takerIn K C name=some none) (hh:PySem.W.hasDictIn K C=true)
  (hw:PySem.Within mA ns) (hsz:ns.length<=sizeLine)
  (h:∀ h',ObjM h' x dx C (fun y=>if y=name then some v else mA y)->Heap.SameBut dx s.heap h'->Q () { s with heap:=h',toks:=s.toks+2 }) :
  wpAny (model prog w) A (setAttr (.ref x) name v) Q E s:=by
 obtain⟨od,J,hl⟩:=I.look
 refine PySem.W.set_plain X J hs (PySem.W.osa_open (s:={ s with toks:=s.toks+1 }) (r:=none) X J hp ht fun b=>?_)
 obtain⟨cd,hc,hd'⟩:=PySem.W.any_some hh
 have hx:s.heap.get? x=some ⟨.ref C,some dx,.plain,#[]⟩:=I.obj
 refine wpAny_bind (wpAny_pure (wpAny_bind (wpAny_bind (wpAny_loadPart hx (wpAny_bind (PySem.W.Looks.here (s:={ s with toks:=s.toks+1 }) (PySem.W.looks_clsIn X hc) ?_))))))
 rw[hd']
 refine wpAny_pure (a:=some dx) (wpAny_bind (wpAny_pure (wpAny_bind ?_)))
 refine wpAny_nsSet1 (s:={ s with toks:=s.toks+1 }) I.ns fun h' hn2 hs2=>?_
 obtain⟨oD,esD,epD,hoD,hdD,hcD⟩:=hn2.count (PySem.Within.cons name v hw)
 refine wpAny_bind (wpAny_lookBehind hoD (by rw[hdD]; exact pastItsLine_dict (Nat.le_trans hcD (by rw[List.length_cons]; omega))) ?_)
 exact wpAny_pure (h _ ⟨(hs2.2 _ (Ne.symm I.ne)).trans I.obj,hn2,I.ne⟩ hs2)
theorem make_map {R:Result->Shared->Prop} {vs:List Value} {kw:List (Str × Value)} (X:K.In s.heap) (hm:PySem.W.makesIn K C=true)
  (hi:PySem.W.findIn K (.ref C) "__init__" = some (some (.ref f))) (hf:PySem.W.typeIn K (.ref f)=some (.type "function"))
  (h:codeAny (model prog w) (A.under (.builtin "type.__call__" ⟨.ref C::vs,kw⟩)) (.call (.ref f) ⟨.ref (s.heap.objs.size+1)::vs,kw⟩) (PySem.W.InitBack (s.heap.objs.size+1) R)
   { s with heap:=(s.heap.push PySem.W.emptyDict).push (PySem.W.instObj C s.heap.objs.size) }) :
  codeAny (model prog w) A (.call (.ref C) ⟨vs,kw⟩) R s:=by
 obtain⟨hh,g,d,t,os⟩:=s
 exact PySem.W.make_core (PySem.W.makes_of X hm) (PySem.W.looks_findIn X hi) (fun self=>PySem.W.bind_fn X self hf) (.inl rfl) h
end
def putF (f:Str) (v:V):List (Str × V)->List (Str × V)
 | []=>[(f,v)]
 | (g,x)::r=>if g=f then (g,v)::r else (g,x)::putF f v r
theorem lookup_putF (f g:Str) (v:V):∀ fs:List (Str × V),(putF f v fs).lookup g=if g=f then some v else fs.lookup g
 | []=>by
  show List.lookup g [(f,v)]=_
  by_cases h:g=f
  ·have hb:(g == f)=true:=beq_iff_eq.mpr h
   simp only[List.lookup,hb,if_pos h]
  ·have hb:(g == f)=false:=beq_eq_false_iff_ne.mpr h
   simp only[List.lookup,hb,if_neg h]
 | (k,x)::r=>by
  have ih:=lookup_putF f g v r
  rw[show putF f v ((k,x)::r)=(if k=f then (k,v)::r else (k,x)::putF f v r) from rfl]
  by_cases hk:k=f
  ·rw[if_pos hk]
   by_cases h:g=k
   ·have hb:(g == k)=true:=beq_iff_eq.mpr h
    simp only[List.lookup,hb,if_pos (h.trans hk)]
   ·have hb:(g == k)=false:=beq_eq_false_iff_ne.mpr h
    simp only[List.lookup,hb,if_neg (fun e:g=f=>h (e.trans hk.symm))]
  ·rw[if_neg hk]
   by_cases h:g=k
   ·have hb:(g == k)=true:=beq_iff_eq.mpr h
    simp only[List.lookup,hb,if_neg (fun e:g=f=>hk (h.symm.trans e))]
   ·have hb:(g == k)=false:=beq_eq_false_iff_ne.mpr h
    simp only[List.lookup,hb]
    exact ih
theorem keys_putF (f:Str) (v:V):∀ fs:List (Str × V),f∈(putF f v fs).map (·.1)/\∀ g,g∈fs.map (·.1)->g∈(putF f v fs).map (·.1)
 | []=>⟨by simp [putF],fun g h=>by simp at h⟩
 | (k,x)::r=>by
  obtain⟨i1,i2⟩:=keys_putF f v r
  rw[show putF f v ((k,x)::r)=(if k=f then (k,v)::r else (k,x)::putF f v r) from rfl]
  by_cases hk:k=f
  ·rw[if_pos hk]
   subst hk
   exact⟨by simp,fun g h=>by simpa using h⟩
  ·rw[if_neg hk]
   refine⟨?_,fun g h=>?_⟩
   ·rw[List.map_cons]
    exact List.mem_cons_of_mem _ i1
   ·rw[List.map_cons]at h ⊢
    rcases List.mem_cons.mp h with e | e
    ·exact List.mem_cons.mpr (.inl e)
    ·exact List.mem_cons_of_mem _ (i2 g e)
theorem length_putF (f:Str) (v:V):∀ fs:List (Str × V),(putF f v fs).length<=fs.length+1
 | []=>by simp [putF]
 | (k,x)::r=>by
  have ih:=length_putF f v r
  rw[show putF f v ((k,x)::r)=(if k=f then (k,v)::r else (k,x)::putF f v r) from rfl]
  by_cases hk:k=f
  ·rw[if_pos hk,List.length_cons,List.length_cons]; omega
  ·rw[if_neg hk,List.length_cons,List.length_cons]; omega
theorem RelO.some_of {v:V} {o:Option Value} (r:RelO (some v) o):∃ u,o=some u/\RelV v u:=by
 cases o with
 | none=>exact(show False from r).elim
 | some u=>exact⟨u,rfl,r⟩
theorem RelO.none_of {o:Option Value} (r:RelO none o):o=none:=by
 cases o with
 | none=>rfl
 | some u=>exact(show False from r).elim
theorem handed_of {v:V} {u:Value} (r:RelV v u):PySem.W.handedIn u=true:=by
 cases v with
 | non=>cases (show u=Value.none from r); rfl
 | bl b=>cases (show u=Value.bool b from r); rfl
 | int i=>obtain⟨t,e⟩:=(show ∃ t,u=Value.int i t from r); cases e; rfl
 | str x=>obtain⟨t,e⟩:=(show ∃ t,u=Value.str x t from r); cases e; rfl
 | byt b=>obtain⟨t,e⟩:=(show ∃ t,u=Value.bytes b t from r); cases e; rfl
 | flt b=>obtain⟨t,e⟩:=(show ∃ t,u=Value.float b t from r); cases e; rfl
 | ref a=>cases (show u=Value.ref a from r); rfl
 | ty n=>cases (show u=Value.type n from r); rfl
section
variable {P:Program} {w:World} {H H':Hp} {h h':Heap} {a C dx:Addr} {fs fs':List (Str × V)}
theorem ins_get (hok:HOk P w H h) (e:H a=some (.ins C dx fs)):∃ mA,ObjM h a dx C mA/\(∀ f,RelO (fs.lookup f) (mA f))/\PySem.Within mA (fs.map (·.1))/\fs.length<=1000/\H dx=some (.own a):=by
 obtain⟨d,z,ne,ob,mA,n,r,q⟩:=(show ObjOk P w H h a (.ins C dx fs) from hok a _ e)
 exact⟨mA,⟨ob,n,ne⟩,r,q,z,d⟩
end
structure Cls (K:PySem.W.Frag) (C:Addr):Prop where
 pg:PySem.W.plainGet K C Str.empty=true
 hd:PySem.W.hasDictIn K C=true
 po:PySem.W.plainOver K C=true
 sa:PySem.W.findIn K (.ref C) "__setattr__" = some (some (.builtin "object.__setattr__"))
theorem Cls.get {K:PySem.W.Frag} {C:Addr} (c:Cls K C) (f:Str):PySem.W.plainGet K C f=true:=c.pg
def NoAttr (K:PySem.W.Frag) (C:Addr) (f:Str):Prop:=PySem.W.findIn K (.ref C) f=some none
theorem NoAttr.taker {K:PySem.W.Frag} {C:Addr} {f:Str} (n:NoAttr K C f):PySem.W.takerIn K C f=some none:=by
 unfold PySem.W.takerIn
 rw[show PySem.W.findIn K (.ref C) f=some none from n]
 rfl
structure Meth (K:PySem.W.Frag) (C:Addr) (m:Str) (f:Addr):Prop where
 at_:PySem.W.findIn K (.ref C) m=some (some (.ref f))
 fn:PySem.W.isFn K (.ref f)=true
 kp:PySem.W.keepIn K (.ref f)=true
section
variable {X:Cx} {pins:List (Addr × Obj)} {σ : St} {H:Hp} {s:Shared} {a C dx:Addr} {fs:List (Str × V)} {f:Str} {v:V} {A:Around} {E:Value->Shared->Prop}
theorem getattr_ok {b:Bool} {Q:Value->Shared->Prop} (I:Inv X pins σ H s) (e:H a=some (.ins C dx fs)) (c:Cls X.K C) (n:NoAttr X.K C f) (l:fs.lookup f=some v)
  (h:∀ u s',Inv X pins σ H s'->RelV v u->Q u s'):wpAny (model X.prog X.w) A (getAttr (.ref a) f b) Q E s:=by
 obtain⟨mA,O,r,_,_,_⟩:=ins_get I.hok e
 obtain⟨u,hu,ru⟩:=RelO.some_of (v:=v) (o:=mA f) (by rw[<- l]; exact r f)
 exact get_map I.kIn O (c.get f) c.hd n hu (handed_of ru) (h u _ (I.tok _) ru)
theorem getmeth_ok {m:Str} {g:Addr} {pl:Sem Bool} {Q:Value × List Value->Shared->Prop} (I:Inv X pins σ H s) (e:H a=some (.ins C dx fs)) (c:Cls X.K C) (k:Meth X.K C m g) (l:fs.lookup m=none)
  (h:Q (.ref g,[.ref a]) s):wpAny (model X.prog X.w) A (getMethod (.ref a) m pl) Q E s:=by
 obtain⟨mA,O,r,_,_,_⟩:=ins_get I.hok e
 have hn:mA m=none:=RelO.none_of (by rw[<- l]; exact r m)
 exact get_meth I.kIn O (c.get m) k.at_ k.fn hn h
theorem setattr_ok {y:V} {u:Value} {Q:Unit->Shared->Prop} (I:Inv X pins σ H s) (e:H a=some (.ins C dx fs)) (c:Cls X.K C) (n:NoAttr X.K C f) (hl:fs.length<1000) (ry:RelV y u)
  (h:∀ s',Inv X pins σ (upd H a (.ins C dx (putF f y fs))) s'->Q () s'):wpAny (model X.prog X.w) A (setAttr (.ref a) f u) Q E s:=by
 obtain⟨mA,O,r,wi,_,ho⟩:=ins_get I.hok e
 have hz:(fs.map (·.1)).length<=sizeLine:=by rw[List.length_map,sizeLine_eq]; omega
 refine set_map I.kIn O c.sa c.po n.taker c.hd wi hz fun h' O' sb=>h _ ?_
 have hd:∃ o,h'.get? dx=some o:=let ⟨o,_,_,e',_⟩:=O'.ns; ⟨o,e'⟩
 refine I.write (x:=a) (e:=dx) (by rw[e]; exact True.intro) (.inr ho) (fun b q hb z=>(sb.2 b hb).trans z) hd ?_
 refine⟨by rw[upd_ne O.ne]; exact ho,?_,O.ne,O'.obj,_,O'.ns,fun g=>?_,fun g hg=>?_⟩
 ·have:=length_putF f y fs; omega
 ·show RelO ((putF f y fs).lookup g) (if g=f then some u else mA g)
  rw[lookup_putF]
  by_cases q:g=f
  ·rw[if_pos q,if_pos q]; exact ry
  ·rw[if_neg q,if_neg q]; exact r g
 ·by_cases q:g=f
  ·rw[q]; exact(keys_putF f y fs).1
  ·refine(keys_putF f y fs).2 g (wi g fun z=>hg ?_)
   show (if g=f then some u else mA g)=none
   rw[if_neg q]; exact z
theorem Inv.made (I:Inv X pins σ H s):Inv X pins σ (upd (upd H s.heap.objs.size (.own (s.heap.objs.size+1))) (s.heap.objs.size+1) (.ins C s.heap.objs.size []))
  { s with heap:=(s.heap.push PySem.W.emptyDict).push (PySem.W.instObj C s.heap.objs.size) }:=by
 have e1:(s.heap.push PySem.W.emptyDict).get? s.heap.objs.size=some PySem.W.emptyDict:=Heap.get?_push_size s.heap rfl
 have e2:((s.heap.push PySem.W.emptyDict).push (PySem.W.instObj C s.heap.objs.size)).get? (s.heap.objs.size+1)=some (PySem.W.instObj C s.heap.objs.size):=by
  have:=Heap.get?_push_size (s.heap.push PySem.W.emptyDict) (o:=PySem.W.instObj C s.heap.objs.size) rfl
  rwa [Heap.size_push]at this
 have e3:(s.heap.push PySem.W.emptyDict).Ns s.heap.objs.size (fun _=>none):=⟨PySem.W.emptyDict,#[],_,e1,rfl,(fun e he=>absurd he (by simp)),fun _=>rfl⟩
 have I1:=I.laid (a:=s.heap.objs.size) (o:=.own (s.heap.objs.size+1)) (h':=s.heap.push PySem.W.emptyDict) (t':=s.toks) (fun b u q=>Heap.get?_push_of_some _ q) (Nat.le_refl _) ⟨_,e1⟩
 refine I1.laid (a:=s.heap.objs.size+1) (o:=.ins C s.heap.objs.size []) (t':=s.toks) (fun b u q=>Heap.get?_push_of_some _ q) (Nat.le_of_eq (Heap.size_push _ _)) ?_
 have ne:s.heap.objs.size≠s.heap.objs.size+1:=Nat.ne_of_lt (Nat.lt_succ_self _)
 refine⟨by rw[upd_ne ne,upd_same],Nat.zero_le _,ne,e2,fun _=>none,(Heap.Ns1.of_empty e3).at fun o q=>Heap.get?_push_of_some _ q,fun _=>True.intro,fun y hy=>absurd rfl hy⟩
theorem attr_of {prog:Program} {w:World} {env:Env} {e:Expr} {f:Str} {pos:Pos} {s:Shared} {Q:Value->Shared->Prop} (hb:attributeBase e f env (eval e env)=eval e env)
  (h:wpAny (model prog w) A (eval e env) (fun o s₁=>wpAny (model prog w) A (getAttr o f true) Q E s₁) E s):wpAny (model prog w) A (eval (.Attribute e f pos) env) Q E s:=
 Attribute_any_ h (by rw[arm_eval_Attribute,hb])
end
def tFld (K:PySem.W.Frag) (ta:TE) (f:Str):TE:=fun σ H Q=>ta σ H fun x H1=>∃ a C dx fs v,x = .ref a/\H1 a=some (.ins C dx fs)/\Cls K C/\NoAttr K C f/\fs.lookup f=some v/\Q v H1
def sFld (K:PySem.W.Frag) (ta tv:TE) (f:Str):TS:=fun D σ H=>tv σ H fun y H1=>ta σ H1 fun x H2=>∃ a C dx fs,x = .ref a/\H2 a=some (.ins C dx fs)/\Cls K C/\NoAttr K C f/\fs.length<1000/\
 D.nx σ (upd H2 a (.ins C dx (putF f y fs)))
def InOp (X:Cx) (op:Operator) (rd:V->V->Hp->VK->Prop):Prop:=
 ∀ (pins:List (Addr × Obj)) (s:Shared) (σ : St) (H:Hp) (x y:V) (u v:Value) (Q:VK),Inv X pins σ H s->RelV x u->RelV y v->rd x y H Q->wpAny (model X.prog X.w) X.A (inplaceOp op u v) (EP X pins σ Q) X.xe s
def sFldAug (K:PySem.W.Frag) (ta tv:TE) (rd:V->V->Hp->VK->Prop) (f:Str):TS:=fun D σ H=>ta σ H fun x H1=>∃ a C dx fs v,x = .ref a/\H1 a=some (.ins C dx fs)/\Cls K C/\NoAttr K C f/\fs.lookup f=some v/\
 tv σ H1 fun y H2=>rd v y H2 fun z H3=>∃ dx' fs',H3 a=some (.ins C dx' fs')/\fs'.length<1000/\D.nx σ (upd H3 a (.ins C dx' (putF f z fs')))
section
variable {X:Cx} {o e value:Expr} {f:Str} {pos pos' tpos:Pos} {ta tv:TE}
theorem pe_fld (he:PE X e ta) (hb:attributeBase e f X.env (eval e X.env)=eval e X.env):PE X (.Attribute e f pos) (tFld X.K ta f):=by
 intro pins s σ H Q I h
 refine attr_of hb (thn (he pins s σ H _ I h) fun u s1 ⟨x,H1,I1,rx,a,C,dx,fs,v,ex,ea,c,n,l,q⟩=>?_)
 subst ex
 obtain rfl:u=Value.ref a:=rx
 exact getattr_ok I1 ea c n l fun u' s2 I2 ru=>⟨v,H1,I2,ru,q⟩
theorem ps_fld (ha:PE X o ta) (hv:PE X value tv) (hs:swapsWith value (some (.Attribute o f pos')) pos.line X.env=pure false):PS X (.Assign [.Attribute o f pos'] value pos) (sFld X.K ta tv f):=by
 intro pins s σ H D I h
 refine plainObj_wpAny_Assign_Attribute (thn (hv pins s σ H _ I h) fun u s1 ⟨y,H1,I1,ry,q⟩=>thn (ha pins s1 σ H1 _ I1 q) fun ov s2 ⟨x,H2,I2,rx,a,C,dx,fs,ex,ea,c,n,l,q2⟩=>?_) hs
 subst ex
 obtain rfl:ov=Value.ref a:=rx
 exact setattr_ok I2 ea c n l ry fun s3 I3=>⟨σ,_,I3,q2⟩
theorem ps_fldaug {op:Operator} {rd:V->V->Hp->VK->Prop} (ha:PE X o ta) (hv:PE X value tv) (hop:InOp X op rd):PS X (.AugAssign (.Attribute o f tpos) op value pos) (sFldAug X.K ta tv rd f):=by
 intro pins s σ H D I h
 refine wpAny_AugAssign_AttributeAny (thn (ha pins s σ H _ I h) fun ov s1 ⟨x,H1,I1,rx,a,C,dx,fs,v,ex,ea,c,n,l,q⟩=>?_)
 subst ex
 obtain rfl:ov=Value.ref a:=rx
 refine getattr_ok I1 ea c n l fun u s2 I2 ru=>thn (hv pins s2 σ H1 _ I2 q) fun w3 s3 ⟨y,H2,I3,ry,q3⟩=>thn (hop pins s3 σ H2 v y u w3 _ I3 ru ry q3) fun w4 s4 ⟨z,H3,I4,rz,dx',fs',ea',l',q4⟩=>?_
 exact setattr_ok I4 ea' c n l' rz fun s5 I5=>⟨σ,_,I5,q4⟩
def rAdd:V->V->Hp->VK->Prop:=fun x y H Q=>∃ i j,x = .int i/\y = .int j/\Q (.int (i+j)) H
def rSub:V->V->Hp->VK->Prop:=fun x y H Q=>∃ i j,x = .int i/\y = .int j/\Q (.int (i - j)) H
theorem in_add:InOp X .Add rAdd:=by
 rintro pins s σ H x y u v Q I rx ry ⟨i,j,rfl,rfl,q⟩
 obtain⟨t,rfl⟩:=(show ∃ t,u=Value.int i t from rx)
 obtain⟨t',rfl⟩:=(show ∃ t',v=Value.int j t' from ry)
 exact PyProof.Rows.iadd_int ⟨.int (i+j),H,I.tok _,⟨_,rfl⟩,q⟩
theorem in_sub:InOp X .Sub rSub:=by
 rintro pins s σ H x y u v Q I rx ry ⟨i,j,rfl,rfl,q⟩
 obtain⟨t,rfl⟩:=(show ∃ t,u=Value.int i t from rx)
 obtain⟨t',rfl⟩:=(show ∃ t',v=Value.int j t' from ry)
 exact PyProof.Rows.isub_int ⟨.int (i - j),H,I.tok _,⟨_,rfl⟩,q⟩
end
section
variable {X:Cx} {pins:List (Addr × Obj)} {σ : St} {H:Hp} {s:Shared} {A:Around} {E:Value->Shared->Prop} {Q:Value->Shared->Prop} {c:Value} {b:Bool}
inductive TyOf (K:PySem.W.Frag) (H:Hp):V->Value->Prop where
 | non:TyOf K H .non (.type "NoneType")
 | bl (x:Bool):TyOf K H (.bl x) (.type "bool")
 | int (i:Int):TyOf K H (.int i) (.type "int")
 | str (x:Str):TyOf K H (.str x) (.type "str")
 | flt (x:UInt64):TyOf K H (.flt x) (.type "float")
 | lst {a:Addr} {xs:List V} (e:H a=some (.lst xs)):TyOf K H (.ref a) (.type "list")
 | frz {a:Addr} {o:Obj} {xs:List V} (e:H a=some (.frz o (.lst xs))):TyOf K H (.ref a) (.type "list")
 | tup {a:Addr} {xs:List V} (e:H a=some (.tup xs)):TyOf K H (.ref a) (.type "tuple")
 | dK {a:Addr} {kvs:List (Key × V)} (e:H a=some (.dK kvs)):TyOf K H (.ref a) (.type "dict")
 | dT {a:Addr} {kvs:List (List Key × V)} (e:H a=some (.dT kvs)):TyOf K H (.ref a) (.type "dict")
 | ins {a C dx:Addr} {fs:List (Str × V)} (e:H a=some (.ins C dx fs)) (cl:Cls K C) (ha:PySem.W.findIn K (.ref C) "__class__" = some (some (.builtin "object.__class__")))
   (hn:PySem.W.specialIn K (.builtin "object.__class__") "__get__" = some (some (.builtin "getset_descriptor.__get__"))) (htk:PySem.W.takesIn K (.builtin "object.__class__")=some true)
   (hm:PySem.W.mroIn K C (.type "object")=some true):TyOf K H (.ref a) (.ref C)
theorem isinst_ok {x:V} {u t:Value} (I:Inv X pins σ H s) (rx:RelV x u) (ty:TyOf X.K H x t) (e:PySem.W.kitOne X.K t c=some b) (h:∀ tk,Q (.bool b) { s with toks:=tk }) :
  wpAny (model X.prog X.w) A (call (.builtin "isinstance") [u,c]) Q E s:=by
 cases ty with
 | non=>cases (show u=Value.none from rx); exact PySem.W.kia_one PySem.W.kitx_none I.kIn True.intro e (fun z=>nomatch z) h
 | bl y=>cases (show u=Value.bool y from rx); exact PySem.W.kia_one PySem.W.kitx_bool I.kIn True.intro e (fun z=>nomatch z) h
 | int i=>obtain⟨t,q⟩:=(show ∃ t,u=Value.int i t from rx); cases q; exact PySem.W.kia_one PySem.W.kitx_int I.kIn True.intro e (fun z=>nomatch z) h
 | str y=>obtain⟨t,q⟩:=(show ∃ t,u=Value.str y t from rx); cases q; exact PySem.W.kia_one PySem.W.kitx_str I.kIn True.intro e (fun z=>nomatch z) h
 | flt y=>obtain⟨t,q⟩:=(show ∃ t,u=Value.float y t from rx); cases q; exact PySem.W.kia_one PySem.W.kitx_float I.kIn True.intro e (fun z=>nomatch z) h
 | @lst a xs ea=>
  cases (show u=Value.ref a from rx)
  obtain⟨_,_,n,_,h1⟩:=(show ObjOk X.prog X.w H s.heap a (.lst xs) from I.hok a _ ea)
  exact PySem.W.kia_one PySem.W.kitx_list I.kIn ⟨_,h1,rfl⟩ e (fun z=>nomatch z) h
 | @frz a ob xs ea=>
  cases (show u=Value.ref a from rx)
  obtain⟨_,_,_,n,_,h1⟩:=(show ObjOk X.prog X.w H s.heap a (.frz ob (.lst xs)) from I.hok a _ ea)
  exact PySem.W.kia_one PySem.W.kitx_list I.kIn ⟨_,h1,rfl⟩ e (fun z=>nomatch z) h
 | @tup a xs ea=>
  cases (show u=Value.ref a from rx)
  obtain⟨_,_,_,p⟩:=(show ObjOk X.prog X.w H s.heap a (.tup xs) from I.hok a _ ea)
  obtain⟨o,h1,h2,_⟩:=p
  exact PySem.W.kia_one PySem.W.kitx_tuple I.kIn ⟨o,h1,h2⟩ e (fun z=>nomatch z) h
 | @dK a kvs ea=>
  cases (show u=Value.ref a from rx)
  obtain⟨_,_,vs,_,p⟩:=(show ObjOk X.prog X.w H s.heap a (.dK kvs) from I.hok a _ ea)
  obtain⟨o,es,ep,h1,h2,_⟩:=p
  exact PySem.W.kia_one PySem.W.kitx_dict I.kIn ⟨o,h1,h2.1⟩ e (fun z=>nomatch z) h
 | @dT a kvs ea=>
  cases (show u=Value.ref a from rx)
  obtain⟨_,_,xs,_,o,es,ep,h1,h2,_⟩:=(show ObjOk X.prog X.w H s.heap a (.dT kvs) from I.hok a _ ea)
  exact PySem.W.kia_one PySem.W.kitx_dict I.kIn ⟨o,h1,h2.1⟩ e (fun z=>nomatch z) h
 | @ins a C dx fs ea cl ha hn htk hm=>
  cases (show u=Value.ref a from rx)
  obtain⟨mA,O,_⟩:=ins_get I.hok ea
  obtain⟨od,J,_⟩:=O.look
  exact PySem.W.kia_one (PySem.W.kitx_own (cl.get _) cl.hd ha hn htk hm) I.kIn J e (fun z=>nomatch z) h
end
end L2
namespace L2
open PySem PySem.Spec PyProof.Rows
structure Room (k:Nat) (A:Around):Prop where
 hd:A.handled=none
 dp:A.depth+3 * k+5<recursionLimit
 un:A.units+16 * k+200<cLine
theorem Room.mono {j k:Nat} {A:Around} (r:Room k A) (h:j<=k):Room j A:=⟨r.hd,by have:=r.dp; omega,by have:=r.un; omega⟩
theorem Room.deeper {k:Nat} {A:Around} (r:Room (k+1) A) (env:Env):Room k (A.deeper env):=
 ⟨r.hd,by have:=r.dp; show A.depth+1+3 * k+5<_; omega,by have:=r.un; show A.units+3+16 * k+200<_; omega⟩
theorem make_depth {A:Around} {C:Addr} {us:List Value} {kw:List (Str × Value)}:(A.under (.builtin "type.__call__" ⟨.ref C::us,kw⟩)).depth=A.depth+1:=by
 first | rfl | simp [Around.under,Code.weight,Code.isCreation,Code.isGuard,Code.isCaller,Code.frames,Code.isFrame,guardIds]
theorem make_units {A:Around} {C:Addr} {us:List Value} {kw:List (Str × Value)}:(A.under (.builtin "type.__call__" ⟨.ref C::us,kw⟩)).units=A.units+1:=by
 first | rfl | simp [Around.under,Code.cUnits,Code.frames,Code.isFrame]
theorem Room.make {k:Nat} {A:Around} (r:Room (k+1) A) (C:Addr) (us:List Value) (kw:List (Str × Value)):Room k (A.under (.builtin "type.__call__" ⟨.ref C::us,kw⟩)):=
 ⟨r.hd,by have:=r.dp; rw[make_depth]; omega,by have:=r.un; rw[make_units]; omega⟩
theorem Room.depth {k:Nat} {A:Around} (r:Room k A):A.depth<recursionLimit:=by have:=r.dp; omega
theorem Room.units {k:Nat} {A:Around} (r:Room k A):A.units+64<cLine:=by have:=r.un; omega
def tNil:TA:=fun _ H Q=>Q [] H
def tCons (ta:TE) (tr:TA):TA:=fun σ H Q=>ta σ H fun x H1=>tr σ H1 fun xs H2=>Q (x::xs) H2
section
variable {X:Cx} {e:Expr} {es:List Expr} {te:TE} {t:TA} {pos:Pos}
theorem pa_nil:PA X [] tNil:=fun _ _ _ _ H Q I h=>Calls.spliced_nil ⟨[],H,I,.nil,h⟩
theorem pa_cons (ha:PE X e te) (hr:PA X es t) (hs:starEach (e::es) X.env=(false,eval e X.env)::starEach es X.env:=by rfl):PA X (e::es) (tCons te t):=by
 intro pos pins s σ H Q I h
 rw[hs]
 show wpAny _ _ (spliced ((false,eval e X.env)::backTo pos (starEach es X.env))) _ _ s
 refine Calls.spliced_cons (thn (ha pins s σ H _ I h) fun u s1 ⟨x,H1,I1,r1,q1⟩=>?_)
 exact thn (hr pos pins s1 σ H1 _ I1 q1) fun us s2 ⟨xs,H2,I2,r2,q2⟩=>⟨x::xs,H2,I2,.cons r1 r2,q2⟩
def tTup (t:TA):TE:=fun σ H Q=>t σ H fun xs H1=>xs.length<=sizeLine/\∀ p,H1 p=none->Q (.ref p) (upd H1 p (.tup xs))
def tLst (t:TA):TE:=fun σ H Q=>t σ H fun xs H1=>xs.length<=sizeLine/\∀ p,H1 p=none->Q (.ref p) (upd H1 p (.lst xs))
theorem pe_tup {x1} (h:PA X es t):PE X (.Tuple es x1 pos) (tTup t):=by
 intro pins s σ H Q I hq
 refine wpAny_Tuple_spliced (thn (h pos pins s σ H _ I hq) fun us s1 ⟨xs,H1,I1,r,z,q⟩=>⟨by rw[<- r.length]; exact z,?_⟩)
 have hf:H1 s1.heap.objs.size=none:=I1.hok.fresh (Nat.le_refl _)
 refine⟨.ref s1.heap.objs.size,upd H1 s1.heap.objs.size (.tup xs),I1.laid (t':=s1.toks) (fun b u e=>Heap.get?_push_of_some _ e) (Nat.le_refl _) ?_,rfl,q _ hf⟩
 exact⟨z,us,r,⟨_,Heap.get?_push_size _ rfl,rfl,_,rfl⟩⟩
theorem pe_lst (h:PA X es t):PE X (.List es pos) (tLst t):=by
 intro pins s σ H Q I hq
 refine wpAny_List_spliced (thn (h pos pins s σ H _ I hq) fun us s1 ⟨xs,H1,I1,r,z,q⟩=>⟨by rw[<- r.length]; exact z,?_⟩)
 have hf:H1 s1.heap.objs.size=none:=I1.hok.fresh (Nat.le_refl _)
 refine⟨.ref s1.heap.objs.size,upd H1 s1.heap.objs.size (.lst xs),I1.laid (t':=s1.toks) (fun b u e=>Heap.get?_push_of_some _ e) (Nat.le_refl _) ?_,rfl,q _ hf⟩
 exact⟨z,us,0,r,Heap.get?_push_size _ rfl⟩
end
abbrev Sp:=List V->Hp->VK->XK->Prop
abbrev CXT:=List Env->Hp->Shared->XK->Value->Shared->Prop
structure Env0 (P:Program) (w:World) (K:PySem.W.Frag) (mg:Str->Option Value) (base:Heap) (A:Around) (outer:List Env) (s:Shared) (H:Hp):Prop where
 frames:A.frames=some outer
 mod:Mod K mg base
 bs:∀ b o,base.get? b=some o->s.heap.get? b=some o/\H b=none
 bsz:base.objs.size<=s.heap.objs.size
 funs:s.heap.FunFrames base outer
 frf:∀ b∈frs outer,H b=none
 hok:HOk P w H s.heap
 bare:AllBare s.gens
def CE (outer:List Env) (P:Program) (w:World) (H:Hp) (s:Shared) (Q:VK) (u:Value) (s':Shared):Prop:=
 ∃ v H',s'.os=s.os/\AllBare s'.gens/\Un (frs outer) [] H H' s.heap s'.heap/\HOk P w H' s'.heap/\RelV v u/\Q v H'
def CR (CX:CXT) (outer:List Env) (P:Program) (w:World) (H:Hp) (s:Shared) (Q:VK) (E:XK) (r:Result) (s':Shared):Prop:=
 match r with
 | .ok (.ret u)=>CE outer P w H s Q u s'
 | .ok _=>False
 | .error e=>CX outer H s E e s'
structure FnOk (P:Program) (w:World) (K:PySem.W.Frag) (mg:Str->Option Value) (base:Heap) (CX:CXT) (k:Nat) (f:Addr) (fd:FuncData) (ps:List Str) (sp:Sp):Prop where
 len:∀ vs H Q E,sp vs H Q E->vs.length=ps.length
 run:∀ (A:Around) (outer:List Env) (s:Shared) (H:Hp) (args:Args) (us:List Value) (vs:List V) (Q:VK) (E:XK),Room k A->Env0 P w K mg base A outer s H->BindsTo s fd args (ps.zip us)->Vals vs us->sp vs H Q E->
  codeAny (model P w) A (.call (.ref f) args) (CR CX outer P w H s Q E) s
theorem Env0.make {P:Program} {w:World} {K:PySem.W.Frag} {mg:Str->Option Value} {base:Heap} {A:Around} {outer:List Env} {s:Shared} {H:Hp} (e:Env0 P w K mg base A outer s H) (C:Addr) (us:List Value) (kw:List (Str × Value)) :
  Env0 P w K mg base (A.under (.builtin "type.__call__" ⟨.ref C::us,kw⟩)) outer s H:=⟨by first | exact e.frames | (simpa [Around.under,Code.envs,Code.isFrame,pushEnvs] using e.frames),e.mod,e.bs,e.bsz,e.funs,e.frf,e.hok,e.bare⟩
section
variable {X:Cx} {pins:List (Addr × Obj)} {σ : St} {H:Hp} {s s':Shared}
theorem Inv.env0 (I:Inv X pins σ H s):Env0 X.prog X.w X.K X.mg X.base X.A X.stack s H:=
 ⟨I.ok.frames,I.ok.mod,I.bs,Nat.le_trans I.ok.bsz I.sz,I.stack,I.stkFree,I.hok,I.bare⟩
theorem Inv.after {Q:VK} {u:Value} (I:Inv X pins σ H s) (h:CE X.stack X.prog X.w H s Q u s'):EP X pins σ Q u s':=by
 obtain⟨v,H',os,bare,un,hok,r,q⟩:=h
 obtain⟨hh,g,d,t,os'⟩:=s'
 obtain rfl:os'=s.os:=os
 exact⟨v,H',I.call (h':=hh) (g':=g) (d':=d) (t':=t) (ch:=[]) un hok bare (fun b z=>absurd z (by simp)),r,q⟩
end
def tCall (sp:Sp) (dvs:List V) (E:XK) (t:TA):TE:=fun σ H Q=>t σ H fun vs H1=>sp (vs++dvs) H1 Q E
def tMeth (C:Addr) (m:Str) (sp:Sp) (dvs:List V) (E:XK) (ta:TE) (t:TA):TE:=fun σ H Q=>ta σ H fun x H1=>∃ a dx fs,x = .ref a/\H1 a=some (.ins C dx fs)/\fs.lookup m=none/\
 t σ H1 fun vs H2=>sp (x::(vs++dvs)) H2 Q E
def tMake (C:Addr) (sp:Sp) (dvs:List V) (E:XK) (t:TA):TE:=fun σ H Q=>t σ H fun vs H1=>∀ x dx,H1 x=none->H1 dx=none->dx≠x->
 sp (.ref x::(vs++dvs)) (upd (upd H1 dx (.own x)) x (.ins C dx [])) (fun v H2=>v = .non/\Q (.ref x) H2) E
def Binds (K:PySem.W.Frag) (fd:FuncData) (ps:List Str) (ds:List Value):Prop:=
 ∀ (s:Shared) (us:List Value),K.In s.heap->(us++ds).length=ps.length->BindsTo s fd ⟨us,[]⟩ (ps.zip (us++ds))
theorem Binds.all {K:PySem.W.Frag} {fd:FuncData} {ps:List Str} (h:∀ us:List Value,us.length=ps.length->bindArgs fd ⟨us,[]⟩=pure (ps.zip us)):Binds K fd ps []:=fun s us _ hl=>by
 rw[List.append_nil]at hl ⊢
 exact .of_eq (h us hl)
def Passes (CX:CXT) (X:Cx) (E:XK):Prop:=∀ (pins:List (Addr × Obj)) (σ : St) (H:Hp) (s:Shared) (e:Value) (s':Shared),Inv X pins σ H s->CX X.stack H s E e s'->X.xe e s'
section
variable {X:Cx} {CX:CXT} {k:Nat} {f C:Addr} {fd:FuncData} {ps:List Str} {sp:Sp} {dvs:List V} {ds:List Value} {E:XK} {x m:Str} {p pos apos:Pos} {e o:Expr} {es:List Expr} {ta:TE} {t:TA}
theorem run_fn {pins:List (Addr × Obj)} {σ : St} {H:Hp} {s:Shared} {Q:VK} {us:List Value} {vs:List V} (F:FnOk X.prog X.w X.K X.mg X.base CX k f fd ps sp) (hr:Room k X.A) (hb:Binds X.K fd ps ds) (hd:Vals dvs ds) (hx:Passes CX X E)
  (I:Inv X pins σ H s) (r:Vals vs us) (h:sp (vs++dvs) H Q E):wpAny (model X.prog X.w) X.A (call (.ref f) us) (EP X pins σ Q) X.xe s:=by
 have r2:Vals (vs++dvs) (us++ds):=r.append hd
 have hl:(us++ds).length=ps.length:=by rw[<- r2.length]; exact F.len _ _ _ _ h
 refine wpAny_call (codeAny_mono (F.run X.A X.stack s H ⟨us,[]⟩ (us++ds) (vs++dvs) Q E hr I.env0 (hb s us I.kIn hl) r2 h) fun r s' hq=>?_)
 cases r with
 | error e=>exact hx pins σ H s e s' I hq
 | ok fl=>
  cases fl with
  | ret u=>exact I.after hq
  | next=>exact False.elim hq
  | brk=>exact False.elim hq
  | cont=>exact False.elim hq
theorem pe_call (F:FnOk X.prog X.w X.K X.mg X.base CX k f fd ps sp) (hr:Room k X.A) (hg:Gl X x) (hm:X.mg x=some (.ref f)) (hk:PySem.W.keepIn X.K (.ref f)=true) (hb:Binds X.K fd ps ds) (hd:Vals dvs ds) (hx:Passes CX X E)
  (ha:PA X (e::es) t) (hdb:(x == ("__debug__" : Str))=false:=by decide) (he:starEach (e::es) X.env=(false,eval e X.env)::starEach es X.env:=by rfl) (hpl:(backTo pos (starEach es X.env)).any (·.1)=false:=by rfl) :
  PE X (.Call (.Name x p) (e::es) [] pos) (tCall sp dvs E t):=by
 intro pins s σ H Q I h
 refine wpAny_Call_Name_kw (ld_glob I hg hm ?_ hdb)
 refine PySem.W.callWith_K (h₀:=X.base) I.ok.mod.kin hk (thn (ha pos pins s σ H _ I h) fun us s1 ⟨vs,H1,I1,r,q⟩=>⟨I1.kIn,?_⟩) he hpl
 exact run_fn F hr hb hd hx I1 r q
theorem pe_meth {pl:Sem Bool} (he:PE X o ta) (c:Cls X.K C) (hm:Meth X.K C m f) (F:FnOk X.prog X.w X.K X.mg X.base CX k f fd ps sp) (hr:Room k X.A) (hb:Binds X.K fd ps ds) (hd:Vals dvs ds) (hx:Passes CX X E) (ha:PA X (e::es) t)
  (hst:starEach (e::es) X.env=(false,eval e X.env)::starEach es X.env:=by rfl) (hpl:(backTo pos (starEach es X.env)).any (·.1)=false:=by rfl)
  (ht:eval (.Call (.Attribute o m apos) (e::es) [] pos) X.env=(do
   let ov <- eval o X.env
   standAt apos.atName
   let (f,first) <- holding [ov] (getMethod ov m pl)
   callWith pos f first (backTo pos (starEach (e::es) X.env)) (backToKw pos (keywordEach [] X.env))):=by rfl) :
  PE X (.Call (.Attribute o m apos) (e::es) [] pos) (tMeth C m sp dvs E ta t):=by
 intro pins s σ H Q I h
 refine PySem.W.methodCall_KW (pl:=pl) (thn (he pins s σ H _ I h) fun u s1 ⟨x,H1,I1,rx,a,dx,fs,ex,ea,l,q⟩=>?_) ht
 subst ex
 obtain rfl:u=Value.ref a:=rx
 refine getmeth_ok I1 ea c hm l ?_
 refine PySem.W.callWith_K (first:=[.ref a]) (h₀:=X.base) I.ok.mod.kin hm.kp (thn (ha pos pins s1 σ H1 _ I1 q) fun us s2 ⟨vs,H2,I2,r,q2⟩=>⟨I2.kIn,?_⟩) hst hpl
 exact run_fn (us:=.ref a::us) (vs:=.ref a::vs) F hr hb hd hx I2 (.cons rfl r) q2
theorem pe_meth0 {pl:Sem Bool} (he:PE X o ta) (c:Cls X.K C) (hm:Meth X.K C m f) (F:FnOk X.prog X.w X.K X.mg X.base CX k f fd ps sp) (hr:Room k X.A) (hb:Binds X.K fd ps ds) (hd:Vals dvs ds) (hx:Passes CX X E)
  (ht:eval (.Call (.Attribute o m apos) [] [] pos) X.env=(do
   let ov <- eval o X.env
   standAt apos.atName
   let (f,first) <- holding [ov] (getMethod ov m pl)
   callWith pos f first (backTo pos (starEach [] X.env)) (backToKw pos (keywordEach [] X.env))):=by rfl) :
  PE X (.Call (.Attribute o m apos) [] [] pos) (tMeth C m sp dvs E ta tNil):=by
 intro pins s σ H Q I h
 refine PySem.W.methodCall_KW (pl:=pl) (thn (he pins s σ H _ I h) fun u s1 ⟨x,H1,I1,rx,a,dx,fs,ex,ea,l,q⟩=>?_) ht
 subst ex
 obtain rfl:u=Value.ref a:=rx
 refine getmeth_ok I1 ea c hm l ?_
 exact PySem.W.callWith_K0 (first:=[.ref a]) I1.kIn hm.kp (run_fn (us:=[.ref a]) (vs:=[.ref a]) F hr hb hd hx I1 (.cons rfl .nil) q)
structure Mk (K:PySem.W.Frag) (C f:Addr):Prop where
 makes:PySem.W.makesIn K C=true
 init:PySem.W.findIn K (.ref C) "__init__" = some (some (.ref f))
 fn:PySem.W.isFn K (.ref f)=true
 kp:PySem.W.keepIn K (.ref C)=true
theorem run_make {pins:List (Addr × Obj)} {σ : St} {H:Hp} {s:Shared} {Q:VK} {us:List Value} {vs:List V} (M:Mk X.K C f) (F:FnOk X.prog X.w X.K X.mg X.base CX k f fd ps sp) (hr:Room (k+1) X.A) (hb:Binds X.K fd ps ds) (hd:Vals dvs ds)
  (hx:Passes CX X E) (I:Inv X pins σ H s) (r:Vals vs us)
  (h:∀ x dx,H x=none->H dx=none->dx≠x->sp (.ref x::(vs++dvs)) (upd (upd H dx (.own x)) x (.ins C dx [])) (fun v H2=>v = .non/\Q (.ref x) H2) E) :
  wpAny (model X.prog X.w) X.A (call (.ref C) us) (EP X pins σ Q) X.xe s:=by
 have hq:=h (s.heap.objs.size+1) s.heap.objs.size (I.hok.fresh (Nat.le_succ _)) (I.hok.fresh (Nat.le_refl _)) (Nat.ne_of_lt (Nat.lt_succ_self _))
 have I2:=Inv.made (C:=C) I
 have r2:Vals (V.ref (s.heap.objs.size+1)::(vs++dvs)) (Value.ref (s.heap.objs.size+1)::(us++ds)):=.cons rfl (r.append hd)
 have hl:(Value.ref (s.heap.objs.size+1)::us++ds).length=ps.length:=by
  have e:=r2.length
  rw[F.len _ _ _ _ hq]at e
  exact e.symm
 refine wpAny_call (make_map (f:=f) I.kIn M.makes M.init (beq_iff_eq.mp M.fn) (codeAny_mono (F.run _ X.stack _ _ ⟨Value.ref (s.heap.objs.size+1)::us,[]⟩ (Value.ref (s.heap.objs.size+1)::(us++ds)) _ _ E (hr.make C us [])
  (I2.env0.make C us []) (hb _ (Value.ref (s.heap.objs.size+1)::us) I2.kIn hl) r2 hq) fun r s' hq'=>?_))
 cases r with
 | error e=>exact hx pins σ _ _ e s' I2 hq'
 | ok fl=>
  cases fl with
  | ret u=>
   obtain⟨v,H',I3,rv,ev,q3⟩:=I2.after hq'
   subst ev
   exact⟨rv,⟨V.ref (s.heap.objs.size+1),H',I3,rfl,q3⟩⟩
  | next=>exact False.elim hq'
  | brk=>exact False.elim hq'
  | cont=>exact False.elim hq'
theorem pe_make (M:Mk X.K C f) (F:FnOk X.prog X.w X.K X.mg X.base CX k f fd ps sp) (hr:Room (k+1) X.A) (hg:Gl X x) (hm:X.mg x=some (.ref C)) (hb:Binds X.K fd ps ds) (hd:Vals dvs ds) (hx:Passes CX X E)
  (ha:PA X (e::es) t) (hdb:(x == ("__debug__" : Str))=false:=by decide) (he:starEach (e::es) X.env=(false,eval e X.env)::starEach es X.env:=by rfl) (hpl:(backTo pos (starEach es X.env)).any (·.1)=false:=by rfl) :
  PE X (.Call (.Name x p) (e::es) [] pos) (tMake C sp dvs E t):=by
 intro pins s σ H Q I h
 refine wpAny_Call_Name_kw (ld_glob I hg hm ?_ hdb)
 refine PySem.W.callWith_K (h₀:=X.base) I.ok.mod.kin M.kp (thn (ha pos pins s σ H _ I h) fun us s1 ⟨vs,H1,I1,r,q⟩=>⟨I1.kIn,?_⟩) he hpl
 exact run_make M F hr hb hd hx I1 r q
theorem pe_make0 (M:Mk X.K C f) (F:FnOk X.prog X.w X.K X.mg X.base CX k f fd ps sp) (hr:Room (k+1) X.A) (hg:Gl X x) (hm:X.mg x=some (.ref C)) (hb:Binds X.K fd ps ds) (hd:Vals dvs ds) (hx:Passes CX X E)
  (hdb:(x == ("__debug__" : Str))=false:=by decide):PE X (.Call (.Name x p) [] [] pos) (tMake C sp dvs E tNil):=by
 intro pins s σ H Q I h
 refine wpAny_Call_Name_kw (ld_glob I hg hm ?_ hdb)
 exact PySem.W.callWith_K0 I.kIn M.kp (run_make (us:=[]) M F hr hb hd hx I .nil h)
end
section
variable {X:Cx} {CX:CXT} {k:Nat} {f C:Addr} {fd:FuncData} {ps ks:List Str} {sp:Sp} {E:XK} {x m:Str} {p pos apos kpos:Pos} {e o:Expr} {es:List Expr} {kws:List Keyword} {te ta:TE} {t tk:TA} {nm:Option Str}
variable {g:List Value->List Value->List Value} {gV:List V->List V->List V}
end
structure FnScope (N P:List Str) (sc:Scope):Prop where
 kind:sc.kind = .function
 co:sc.isCoroutine=false
 gen:sc.isGenerator=false
 nd:N.Nodup
 pre:N.take P.length=P
 par:∀ x∈P,sc.names.lookup x=some .local\/sc.names.lookup x=some .cell
 nofree:∀ y∈sc.names,y.2 ≠ .free
theorem bindL_out {kindOf:Str->Option NameKind} {x:Str}:∀ {binds:List (Str × Value)} {m:Str->Option Value},(∀ v,(x,v) ∉ binds)->bindL kindOf binds m x=m x
 | [],_,_=>rfl
 | (n,v)::r,m,h=>by
  unfold bindL
  rw[bindL_out fun w hw=>h w (List.mem_cons_of_mem _ hw)]
  split
  ·have:x≠n:=by rintro rfl; exact h v List.mem_cons_self
   simp [this]
  ·rfl
theorem bindC_out {kindOf:Str->Option NameKind} {x:Str}:∀ {binds:List (Str × Value)} {m:Str->Option Value},(∀ v,(x,v) ∉ binds)->bindC kindOf binds m x=m x
 | [],_,_=>rfl
 | (n,v)::r,m,h=>by
  unfold bindC
  rw[bindC_out fun w hw=>h w (List.mem_cons_of_mem _ hw)]
  split
  ·rfl
  ·have:x≠n:=by rintro rfl; exact h v List.mem_cons_self
   simp [this]
theorem bindL_get {kindOf:Str->Option NameKind} {x:Str} {v:Value}:∀ {P:List Str} {vs:List Value} {i:Nat} {m:Str->Option Value},P.Nodup->P[i]? = some x->vs[i]? = some v->kindOf x=some .local->
  bindL kindOf (P.zip vs) m x=some v
 | [],_,_,_,_,h,_,_=>by simp at h
 | _::_,[],_,_,_,_,h,_=>by simp at h
 | p::P,w::vs,0,m,nd,h1,h2,hk=>by
  simp at h1 h2; subst h1; subst h2
  show bindL kindOf ((p,w)::P.zip vs) m p=_
  unfold bindL
  rw[bindL_out fun v hv=>(List.nodup_cons.mp nd).1 (List.of_mem_zip hv).1,if_pos hk]
  simp
 | p::P,w::vs,i+1,m,nd,h1,h2,hk=>by
  show bindL kindOf ((p,w)::P.zip vs) m x=_
  unfold bindL
  exact bindL_get (i:=i) (List.nodup_cons.mp nd).2 (by simpa using h1) (by simpa using h2) hk
theorem bindC_get {kindOf:Str->Option NameKind} {x:Str} {v:Value}:∀ {P:List Str} {vs:List Value} {i:Nat} {m:Str->Option Value},P.Nodup->P[i]? = some x->vs[i]? = some v->kindOf x≠some .local->
  bindC kindOf (P.zip vs) m x=some v
 | [],_,_,_,_,h,_,_=>by simp at h
 | _::_,[],_,_,_,_,h,_=>by simp at h
 | p::P,w::vs,0,m,nd,h1,h2,hk=>by
  simp at h1 h2; subst h1; subst h2
  show bindC kindOf ((p,w)::P.zip vs) m p=_
  unfold bindC
  rw[bindC_out fun v hv=>(List.nodup_cons.mp nd).1 (List.of_mem_zip hv).1,if_neg hk]
  simp
 | p::P,w::vs,i+1,m,nd,h1,h2,hk=>by
  show bindC kindOf ((p,w)::P.zip vs) m x=_
  unfold bindC
  exact bindC_get (i:=i) (List.nodup_cons.mp nd).2 (by simpa using h1) (by simpa using h2) hk
def start (N:List Str) (vs:List V):St:=vs.map some++List.replicate (N.length - vs.length) none
def cxOf (CX:CXT) (P:Program) (w:World) (K:PySem.W.Frag) (mg:Str->Option Value) (base:Heap) (N:List Str) (qual:Str) (scope:Scope) (f:Addr) (cd:Value) (A:Around) (outer:List Env) (s:Shared) (H:Hp) (E:XK):Cx where
 prog:=P
 w:=w
 K:=K
 mg:=mg
 base:=base
 A:=A.deeper (envOfC qual scope s.heap.objs.size f cd)
 N:=N
 s₀:=s
 H₀:=H
 env:=envOfC qual scope s.heap.objs.size f cd
 outer:=outer
 stack:=envOfC qual scope s.heap.objs.size f cd::outer
 ex:=[]
 calm:=true
 fn:=fun _=>true
 pn:=[]
 xe:=fun e s'=>wpAny (model P w) (A.deeper (envOfC qual scope s.heap.objs.size f cd)) (leaving (envOfC qual scope s.heap.objs.size f cd) e) (fun _ s''=>CX outer H s E e s'') (fun e' s''=>CX outer H s E e' s'') s'
theorem cell_has {sc:Scope} {n:Nat} {x:Str} (h:sc.names.lookup x=some .cell):∃ c,(cellsFrom n sc.names []).lookup x=some c:=by
 have q:=PySem.W.cellsFrom_some sc.names n [] (.inl h)
 exact Option.isSome_iff_exists.mp q
theorem inv_start {CX:CXT} {P:Program} {w:World} {K:PySem.W.Frag} {mg:Str->Option Value} {base:Heap} {N ps:List Str} {qual:Str} {scope:Scope} {f:Addr} {cd:Value} {A:Around} {outer:List Env} {s s1:Shared} {H:Hp} {E:XK} {us:List Value} {vs:List V}
  (S:FnScope N ps scope) (hd:A.handled=none) (e0:Env0 P w K mg base A outer s H) (hl:vs.length=ps.length) (r:Vals vs us)
  (x:InCallC s s.heap.objs.size (bindL (envOfC qual scope s.heap.objs.size f cd).kindOf (ps.zip us) fun _=>none) (cellsFrom (s.heap.objs.size+1) scope.names []) (bindC (envOfC qual scope s.heap.objs.size f cd).kindOf (ps.zip us) fun _=>none) s1) :
  Inv (cxOf CX P w K mg base N qual scope f cd A outer s H E) [] (start N vs) H s1:=by
 have hpl:ps.length<=N.length:=by have:=congrArg List.length S.pre; rw[List.length_take]at this; omega
 obtain⟨h1,tk,rfl,hk⟩:=x.done
 have noA:∀ b:Addr,b ∉ (cxOf CX P w K mg base N qual scope f cd A outer s H E).ex:=fun b z=>absurd (show b∈([]:List Addr) from z) (by simp)
 refine⟨⟨e0.mod,S.kind,rfl,rfl,Nat.le_refl _,fun y z c h1 h2=>?_,fun y hy=>?_,fun y c _ h=>?_,fun _=>hd,Around.frames_deeper e0.frames,.inr ⟨rfl,rfl⟩,fun b z=>absurd z (noA b),e0.bs,e0.bsz,fun b _ _=>noA b,fun b z=>absurd z (noA b),e0.funs,e0.frf⟩,
  rfl,e0.bare,Un.kept hk,⟨_,x.toInCall.ns,fun i y v h1 h2 h3=>?_⟩,fun y c h=>⟨_,x.cell y c h⟩,e0.hok.fresh (Nat.le_refl _),fun y c h=>?_,fun p hp=>absurd (show p∈([]:List (Addr × Obj)) from hp) (by simp),e0.hok.kept hk,?_⟩
 ·exact name_of_addr x.apart (PySem.mem_of_lookup h1) (PySem.mem_of_lookup h2)
 ·have hy:scope.names.lookup y=some .cell\/scope.names.lookup y=some .free:=hy
  rcases hy with hy | hy
  ·exact cell_has hy
  ·exact absurd rfl (S.nofree _ (PySem.mem_of_lookup hy))
 ·exact Nat.le_of_lt (x.above y c (PySem.mem_of_lookup h))
 ·have hi:i<vs.length:=by
   unfold start at h2
   by_cases hi:i<vs.length
   ·exact hi
   ·rw[List.getElem?_append_right (by simpa using hi)]at h2
    rw[List.getElem?_replicate]at h2
    split at h2 <;> cases h2
  have ha:vs[i]? = some v:=by
   unfold start at h2
   rw[List.getElem?_append_left (by simpa using hi),List.getElem?_map]at h2
   cases e:vs[i]? with
   | none=>rw[e]at h2; cases h2
   | some a=>rw[e]at h2; cases h2; rfl
  obtain⟨u,hu,rv⟩:=r.get ha
  have hp:ps[i]? = some y:=by
   rw[<- S.pre,List.getElem?_take_of_lt (by omega)]; exact h1
  have ndP:ps.Nodup:=by rw[<- S.pre]; exact S.nd.sublist (List.take_sublist _ _)
  refine⟨u,rv,?_⟩
  rcases S.par y (List.mem_of_getElem? hp) with k | k
  ·exact .inl ⟨k,bindL_get ndP hp hu k⟩
  ·obtain⟨c,e⟩:=cell_has (n:=s.heap.objs.size+1) k
   refine .inr ⟨.inl k,c,e,?_⟩
   have q:=x.cell y c e
   rw[bindC_get ndP hp hu (by show scope.names.lookup y≠_; rw[k]; decide)]at q
   exact q
 ·exact e0.hok.fresh (Nat.le_of_lt (x.above y c (PySem.mem_of_lookup h)))
 ·unfold start
  show _=N.length
  rw[List.length_append,List.length_map,List.length_replicate]
  omega
theorem fn_of {CX:CXT} {P:Program} {w:World} {K:PySem.W.Frag} {mg:Str->Option Value} {base:Heap} {k:Nat} {f:Addr} {name qual:Str} {params:Arguments} {body:List Stmt} {scope:Scope} {dV kV doc pm cdv ct oc:Value} {an od:Option Addr}
  {osl:Array (Option Value)} {N ps:List Str} {sp:Sp} (lk:K.lookup f=some ⟨oc,od,.func (PySem.W.fnOf name qual params body scope dV kV doc pm an cdv ct),osl⟩) (hcd:PySem.W.codeIn K cdv qual=true) (S:FnScope N ps scope)
  (len:∀ vs H Q E,sp vs H Q E->vs.length=ps.length)
  (hbody:∀ (A:Around) (outer:List Env) (s:Shared) (H:Hp) (vs:List V) (Q:VK) (E:XK),Room k (A.deeper (envOfC qual scope s.heap.objs.size f cdv))->sp vs H Q E->
   ∃ t,PSs (cxOf CX P w K mg base N qual scope f cdv A outer s H E) body t/\t { nx:=fun _ H'=>Q .non H',rt:=Q } (start N vs) H) :
  FnOk P w K mg base CX (k+1) f (PySem.W.fnOf name qual params body scope dV kV doc pm an cdv ct) ps sp:=by
 refine⟨len,fun A outer s H args us vs Q E hr e0 hb r hsp=>?_⟩
 have hl:=len _ _ _ _ hsp
 have KX:K.In s.heap:=e0.mod.kin.keeps fun b o e=>(e0.bs b o e).1
 have lim:s.heap.NoLimit:=e0.mod.nolimit.keeps fun b o e=>(e0.bs b o e).1
 have hkind:∀ y∈ps.zip us,scope.names.lookup y.1=some .local\/(scope.names.lookup y.1=some .cell/\((cellsFrom (s.heap.objs.size+1) scope.names []).lookup y.1).isSome=true):=fun⟨n,v⟩ hy=>by
  rcases S.par n (List.of_mem_zip hy).1 with q | q
  ·exact .inl q
  ·exact .inr ⟨q,PySem.W.cellsFrom_some _ _ _ (.inl q)⟩
 refine codeAny_call_function hr.depth (KX _ _ lk) rfl S.co S.gen rfl (PySem.W.codeRec_of KX hcd) (hb _ _ _ _ ?_)
 refine wpAny_newFunctionEnv_cells S.kind hkind fun env he s1 x=>?_
 subst he
 refine⟨lim.keeps x.toInCall.keep,codeAny_func ?_⟩
 obtain⟨t,ht,hq⟩:=hbody A outer s H vs Q E (hr.deeper _) hsp
 have I:Inv (cxOf CX P w K mg base N qual scope f cdv A outer s H E) [] (start N vs) H s1:=inv_start S hr.hd e0 hl r x
 refine wpAny_mono (ht [] s1 (start N vs) H _ I hq) (fun fl s' hs=>?_) fun e s' hs=>hs
 have fin:∀ {σ':St} {H':Hp} {v:V} {u:Value},Inv (cxOf CX P w K mg base N qual scope f cdv A outer s H E) [] σ' H' s'->RelV v u->Q v H'->CE outer P w H s Q u s':=
  fun {σ' H' v u} J rv q=>⟨v,H',J.os,J.bare,J.base,J.hok,rv,q⟩
 cases fl with
 | ret u=>
  obtain⟨v,σ',H',J,rv,q⟩:=hs
  exact fin J rv q
 | next=>
  obtain⟨σ',H',J,q⟩:=hs
  exact fin (v:=V.non) (u:=Value.none) J rfl q
 | brk=>
  obtain⟨_,_,_,q⟩:=hs
  exact False.elim q
 | cont=>
  obtain⟨_,_,_,q⟩:=hs
  exact False.elim q
end L2
namespace L2
open PySem PySem.Spec PyProof.Rows
section
variable {X:Cx} {x:Str} {p pos:Pos} {e:Expr} {es:List Expr} {t:TA} {id T:String} {r:List V->Hp->VK->Prop}
def tCB (r:List V->Hp->VK->Prop) (t:TA):TE:=fun σ H Q=>t σ H fun vs H1=>r vs H1 Q
theorem pe_callB (hc:CallR X (.builtin id) r) (hg:Gl X x) (hm:X.mg x=none) (hv:bootBuiltins x=some (.builtin id)) (ha:PA X (e::es) t) (hn:x ≠ "__name__":=by decide) (hdb:(x == ("__debug__" : Str))=false:=by decide)
  (he:starEach (e::es) X.env=(false,eval e X.env)::starEach es X.env:=by rfl) (hpl:(backTo pos (starEach es X.env)).any (·.1)=false:=by rfl):PE X (.Call (.Name x p) (e::es) [] pos) (tCB r t):=by
 intro pins s σ H Q I h
 refine wpAny_Call_Name_kw (ld_blt I hg hm hv ?_ hn hdb)
 exact PyProof.Rows.callWith_builtin1 (thn (ha pos pins s σ H _ I h) fun us s1 ⟨vs,H1,I1,r1,q1⟩=>hc pins s1 σ H1 vs us Q I1 r1 q1) he hpl
theorem pe_callTy (hc:CallR X (.type T) r) (hg:Gl X x) (hm:X.mg x=none) (hv:bootBuiltins x=some (.type T)) (ha:PA X (e::es) t) (hn:x ≠ "__name__":=by decide) (hdb:(x == ("__debug__" : Str))=false:=by decide)
  (he:starEach (e::es) X.env=(false,eval e X.env)::starEach es X.env:=by rfl) (hpl:(backTo pos (starEach es X.env)).any (·.1)=false:=by rfl):PE X (.Call (.Name x p) (e::es) [] pos) (tCB r t):=by
 intro pins s σ H Q I h
 refine wpAny_Call_Name_kw (ld_blt I hg hm hv ?_ hn hdb)
 exact PyProof.Rows.callWith_type1 (thn (ha pos pins s σ H _ I h) fun us s1 ⟨vs,H1,I1,r1,q1⟩=>hc pins s1 σ H1 vs us Q I1 r1 q1) he hpl
end
end L2
namespace HT
open PySem PyProof.Rows
section
open PySem.SeqAt
open PySem.AutoSeq1 (wpAny_loadPart')
open PySem.MeetsSeq PySem.MeetsSeq2 PySem.MeetsSeq3
end
section
variable {prog:Program} {w:World} {A:Around} {E:Value->Shared->Prop} {s:Shared}
theorem cat_tup {t b:Addr} {vs ws:List Value} {Q:Value->Shared->Prop} (ht:IsTup s.heap t vs.toArray) (hb:IsTup s.heap b ws.toArray) (hv:vs≠[])
  (h1:ws=[]->Q (.ref t) s) (h2:ws≠[]->Q (.ref s.heap.objs.size) { s with heap:=s.heap.push { cls:=.type "tuple",data:=.seq (vs++ws).toArray } })
  (hsz:vs.length+ws.length<=sizeLine):wpAny (model prog w) A (binaryOp .Add (.ref t) (.ref b)) Q E s:=by
 obtain⟨⟨cls,dd,data,sl⟩,ho,hc,n,hd⟩:=id ht
 obtain⟨⟨cls2,dd2,data2,sl2⟩,ho2,hc2,n2,hd2⟩:=id hb
 simp only at hc hd hc2 hd2
 subst hc hd hc2 hd2
 have e:vs.toArray++ws.toArray=(vs++ws).toArray:=by simp
 by_cases hw:ws=[]
 ·exact concat_meets ⟨_,ho,rfl⟩ ⟨_,ho2,rfl⟩ noFill_tuple_add seq_tuple_add PySem.F.slot_tuple_add PySem.F.entry_tuple_add (PySem.F.args_tuple_add_2 _ _)
   (tuple_addW1 t b vs.toArray ws.toArray n n2 dd dd2 sl sl2 (by simpa using hv) (by simp [hw])) ⟨ho,ho2,h1 hw⟩
 ·refine concat_meets ⟨_,ho,rfl⟩ ⟨_,ho2,rfl⟩ noFill_tuple_add seq_tuple_add PySem.F.slot_tuple_add PySem.F.entry_tuple_add (PySem.F.args_tuple_add_2 _ _)
   (tuple_addW2 t b vs.toArray ws.toArray n n2 dd dd2 sl sl2 (by simpa using hv) (by simpa using hw) (by rw[List.size_toArray,List.size_toArray]; exact hsz)) ⟨ho,ho2,?_⟩
  rw[e]
  exact h2 hw
def sIx (n d:Nat):Option Int->Nat
 | none=>d
 | some v=>if v<0 then (v+(n:Int)).toNat else min v.toNat n
theorem sIx_none (n d:Nat):sIx n d none=d:=rfl
theorem sIx_nat (n d k:Nat):sIx n d (some (k:Int))=min k n:=by
 show (if (k:Int)<0 then ((k:Int)+(n:Int)).toNat else min (k:Int).toNat n)=min k n
 rw[if_neg (by omega),Int.toNat_natCast]
theorem sIx_le (n d:Nat) (hd:d<=n) (o:Option Int):sIx n d o<=n:=by
 cases o with
 | none=>exact hd
 | some v=>
  show (if v<0 then (v+(n:Int)).toNat else min v.toNat n)<=n
  by_cases hv:v<0
  ·rw[if_pos hv]; omega
  ·rw[if_neg hv]; exact Nat.min_le_right _ _
theorem clip_eq (v:Int) (n d:Nat):(if v<0 then max (v+(n:Int)) 0 else min v (n:Int))=((sIx n d (some v):Nat):Int):=by
 show (if v<0 then max (v+(n:Int)) 0 else min v (n:Int))=(((if v<0 then (v+(n:Int)).toNat else min v.toNat n):Nat):Int)
 by_cases hv:v<0
 ·simp only[if_pos hv]; omega
 ·simp only[if_neg hv]; omega
theorem adjust_gen (lo hi:Option Int) (n:Nat):Builtin.Slice.sliceAdjust lo hi 1 (n:Int)=(((sIx n 0 lo:Nat):Int),((sIx n n hi:Nat):Int)):=by
 have h1:¬ ((1:Int)<0):=by omega
 unfold Builtin.Slice.sliceAdjust
 simp only[h1,if_false]
 refine Prod.ext ?_ ?_
 ·cases lo with
  | none=>rfl
  | some v=>exact clip_eq v n 0
 ·cases hi with
  | none=>rfl
  | some v=>exact clip_eq v n n
theorem places_gen (i j:Nat):Builtin.Slice.slicePlaces (i:Int) (j:Int) 1=j - i:=by
 unfold Builtin.Slice.slicePlaces
 have h1:(1:Int) > 0:=by omega
 simp only[h1,if_true,Int.ediv_one]
 split <;> omega
theorem slicePart_ {v:Value} {o:Option Int} {Q:Option Int->Shared->Prop} (p:IsPart v o) (h:Q o s):wpAny (model prog w) A (Builtin.Slice.slicePartIndex v) Q E s:=by
 cases p with
 | none=>exact slicePart_none h
 | int i t=>exact slicePart_int h
theorem sliceApplied_gen {sl:Addr} {vl vu:Value} {lo hi:Option Int} {n:Nat} {Q:Int × Int × Nat->Shared->Prop} (hs:s.heap.IsSliceOf sl vl vu .none) (pl:IsPart vl lo) (pu:IsPart vu hi)
  (h:Q (((sIx n 0 lo:Nat):Int),1,sIx n n hi - sIx n 0 lo) s):wpAny (model prog w) A (Builtin.Slice.sliceApplied (.ref sl) (pure (n:Int))) Q E s:=by
 obtain⟨os,hos,hcs,hds⟩:=id hs
 unfold Builtin.Slice.sliceApplied Builtin.Slice.sliceFields
 refine wpAny_bind (wpAny_bind (wpAny_field hos hds (x:=vl) rfl (wpAny_bind (wpAny_field hos hds (x:=vu) rfl (wpAny_bind (wpAny_field hos hds (x:=.none) rfl (wpAny_pure ?_)))))))
 refine wpAny_bind (slicePart_none ?_)
 show wpAny _ _ (if ((1:Int) == 0)=true then _ else _) _ _ s
 rw[if_neg (by decide)]
 refine wpAny_bind (slicePart_ pl (wpAny_bind (slicePart_ pu (wpAny_bind (wpAny_pure ?_)))))
 show wpAny _ _ (match Builtin.Slice.sliceAdjust lo hi 1 (n:Int) with | (lo,hi)=>pure (lo,(1:Int),Builtin.Slice.slicePlaces lo hi 1)) _ _ s
 rw[adjust_gen lo hi n]
 show wpAny _ _ (pure (((sIx n 0 lo:Nat):Int),(1:Int),Builtin.Slice.slicePlaces ((sIx n 0 lo:Nat):Int) ((sIx n n hi:Nat):Int) 1)) _ _ s
 rw[places_gen]
 exact wpAny_pure h
theorem pick_gen (xs:Array Value) (i k:Nat):((List.range k).filterMap fun(m:Nat)=>xs[((i:Int)+(m:Int) * 1).toNat]?).toArray=((xs.toList.drop i).take k).toArray:=by
 have e:(fun(m:Nat)=>xs[((i:Int)+(m:Int) * 1).toNat]?)=fun m=>xs[i+m]?:=by
  funext m
  have:((i:Int)+(m:Int) * 1).toNat=i+m:=by omega
  rw[this]
 rw[e]
 have:=pick_run xs i k
 rw[List.filterMap_map]at this
 have e2:((fun x=>xs[x]?) ∘ fun x=>i+x)=fun m=>xs[i+m]?:=rfl
 rw[e2]at this
 rw[this]
theorem getItem_tuple_cut {t sl:Addr} {items:Array Value} {vl vu:Value} {lo hi:Option Int} {Q:Value->Shared->Prop} (ht:IsTup s.heap t items) (hs:s.heap.IsSliceOf sl vl vu .none) (pl:IsPart vl lo) (pu:IsPart vu hi)
  (hw:¬ (sIx items.size 0 lo=0/\sIx items.size items.size hi=items.size))
  (h:Q (.ref s.heap.objs.size) { s with heap:=s.heap.push { cls:=.type "tuple",data:=.seq ((items.toList.drop (sIx items.size 0 lo)).take (sIx items.size items.size hi - sIx items.size 0 lo)).toArray } })
  (hsz:items.size<=sizeLine):wpAny (model prog w) A (getItem (.ref t) (.ref sl)) Q E s:=by
 have htake:sizeOk (.seq ((items.toList.drop (sIx items.size 0 lo)).take (sIx items.size items.size hi - sIx items.size 0 lo)).toArray):=by
  show ((items.toList.drop (sIx items.size 0 lo)).take (sIx items.size items.size hi - sIx items.size 0 lo)).toArray.size<=sizeLine
  rw[List.size_toArray,List.length_take,List.length_drop,Array.length_toList]
  omega
 have hj:sIx items.size items.size hi<=items.size:=sIx_le _ _ (Nat.le_refl _) hi
 obtain⟨os,hos,hcs,hds⟩:=id hs
 have hTs:s.TypeIs (.ref sl) "slice":=⟨os,hos,hcs⟩
 unfold getItem
 try with_reducible refine wpAny_holding ?_
 first | refine wpAny_bind (wpAny_pure ?_) | skip
 refine wpAny_bind (wpAny_sequenceKey ht.typeIs (by decide) ?_)
 refine wpAny_bind (wpAny_callSpecial?_slot (name:=Str.ofString "__getitem__") ht.typeIs PyProof.Rows.slot_tuple_getitem
  (wpAny_call_entry PyProof.Rows.slot_tuple_getitem ht.typeIs entry_tuple_getitem ?_ (args_tuple_getitem _ _)))
 show wpAny _ _ (Builtin.Tuple.tupleItemsOf (.ref t) >>= _) _ _ s
 refine wpAny_bind (tupleItemsOf_ ht ?_)
 refine wpAny_bind (wpAny_typeOf hTs ?_)
 rw[if_pos (by decide)]
 refine wpAny_bind (sliceApplied_gen hs pl pu ?_)
 have hno:¬ ((((sIx items.size 0 lo:Nat):Int) == 0 && (1:Int) == 1 && (sIx items.size items.size hi - sIx items.size 0 lo) == items.size)=true):=by
  intro q
  rw[Bool.and_eq_true,Bool.and_eq_true]at q
  have q1:((sIx items.size 0 lo:Nat):Int)=0:=eq_of_beq q.1.1
  have q2:sIx items.size items.size hi - sIx items.size 0 lo=items.size:=eq_of_beq q.2
  exact hw ⟨by omega,by omega⟩
 show wpAny _ _ (if (((sIx items.size 0 lo:Nat):Int) == 0 && (1:Int) == 1 && (sIx items.size items.size hi - sIx items.size 0 lo) == items.size)=true then _ else _) _ _ s
 rw[if_neg hno,pick_gen]
 first
  | exact wpAny_bind (m:=Builtin.Tuple.tupleExact _) (wpAny_newObj_type (wpAny_pure ⟨_,rfl,wpAny_pure h⟩) htake)
  | exact wpAny_bind (m:=Builtin.Tuple.tupleExact _) (wpAny_newObj_type (wpAny_bind (wpAny_pure (wpAny_pure ⟨_,rfl,wpAny_pure h⟩))) htake)
  | exact wpAny_bind (wpAny_bind (m:=Builtin.Tuple.tupleExact _) (wpAny_newObj_type (wpAny_pure (wpAny_pure ⟨_,rfl,wpAny_pure h⟩)) htake))
  | exact wpAny_bind (wpAny_bind (m:=Builtin.Tuple.tupleExact _) (wpAny_newObj_type (wpAny_pure ⟨_,rfl,wpAny_pure h⟩) htake))
end
end HT
namespace L2
open PySem PySem.Spec PyProof.Rows
abbrev TO:=St->Hp->(Option Int->Hp->Prop)->Prop
def PO (X:Cx) (e:Option Expr) (t:TO):Prop:=
 ∀ (pins:List (Addr × Obj)) (s:Shared) (σ : St) (H:Hp) (Q:Option Int->Hp->Prop),Inv X pins σ H s->t σ H Q->
  wpAny (model X.prog X.w) X.A (evalPart e X.env) (fun u s'=>∃ o H',Inv X pins σ H' s'/\IsPart u o/\Q o H') X.xe s
def tNoPart:TO:=fun _ H Q=>Q none H
def tPart (t:TE):TO:=fun σ H Q=>t σ H fun x H1=>∃ i,x = .int i/\Q (some i) H1
section
variable {X:Cx} {e:Expr} {te:TE} {lo hi:Option Expr} {tl th:TO} {pos p2:Pos}
theorem po_none:PO X none tNoPart:=by
 intro pins s σ H Q I h
 rw[evalPart_none]
 exact wpAny_pure ⟨none,H,I,.none,h⟩
theorem po_some (h:PE X e te):PO X (some e) (tPart te):=by
 intro pins s σ H Q I hw
 rw[evalPart_some]
 refine thn (h pins s σ H _ I hw) fun u s1 ⟨x,H1,I1,r1,q1⟩=>?_
 obtain⟨i,rfl,q⟩:=q1
 obtain⟨t,rfl⟩:=r1
 exact⟨some i,H1,I1,.int i t,q⟩
def SlR (X:Cx) (r:V->Option Int->Option Int->Hp->VK->Prop):Prop:=
 ∀ (pins:List (Addr × Obj)) (s:Shared) (σ : St) (H:Hp) (x:V) (v vl vu:Value) (lo hi:Option Int) (sl:Addr) (Q:VK),Inv X pins σ H s->RelV x v->s.heap.IsSliceOf sl vl vu .none->IsPart vl lo->IsPart vu hi->r x lo hi H Q->
  ∃ T id,typeLookup (.type T) "__getitem__" = pure (some (.builtin id))/\s.TypeIs v T/\wpAny (model X.prog X.w) X.A (getItem v (.ref sl)) (EP X pins σ Q) X.xe s
def tSl (r:V->Option Int->Option Int->Hp->VK->Prop) (te:TE) (tl th:TO):TE:=fun σ H Q=>te σ H fun x H1=>tl σ H1 fun l H2=>th σ H2 fun u H3=>r x l u H3 Q
theorem pe_slice {r:V->Option Int->Option Int->Hp->VK->Prop} (hr:SlR X r) (he:PE X e te) (hl:PO X lo tl) (hu:PO X hi th):PE X (.Subscript e (.Slice lo hi none p2) pos) (tSl r te tl th):=by
 intro pins s σ H Q I h
 refine Subscript_ (thn (he pins s σ H _ I h) fun v s1 ⟨x,H1,I1,r1,q1⟩=>?_)
 refine wpAny_Slice (thn (hl pins s1 σ H1 _ I1 q1) fun vl s2 ⟨l,H2,I2,pl,q2⟩=>thn (hu pins s2 σ H2 _ I2 q2) fun vu s3 ⟨u,H3,I3,pu,q3⟩=>?_)
 rw[evalPart_none]
 refine wpAny_pure ?_
 have I4:Inv X pins σ H3 { s3 with heap:=s3.heap.push { cls:=.type "slice",data:=.fields #[vl,vu,.none] } }:=I3.kept (t':=s3.toks) fun b ob q=>Heap.get?_push_of_some _ q
 obtain⟨T,id,hT,ht,hg⟩:=hr pins { s3 with heap:=s3.heap.push { cls:=.type "slice",data:=.fields #[vl,vu,.none] } } σ H3 x v vl vu l u s3.heap.objs.size Q I4 r1 (Heap.IsSliceOf.new ..) pl pu q3
 show wpAny (model X.prog X.w) X.A (subscriptTail e (.Slice lo hi none p2) v (.ref s3.heap.objs.size)) (EP X pins σ Q) X.xe { s3 with heap:=s3.heap.push { cls:=.type "slice",data:=.fields #[vl,vu,.none] } }
 exact tail_any (ops:=[.ref s3.heap.objs.size,v]) ht hT hg (by with_unfolding_all rfl)
def cutV (xs:List V) (lo hi:Option Int):List V:=(xs.drop (HT.sIx xs.length 0 lo)).take (HT.sIx xs.length xs.length hi - HT.sIx xs.length 0 lo)
theorem cutV_length (xs:List V) (lo hi:Option Int):(cutV xs lo hi).length<=xs.length:=by
 unfold cutV
 rw[List.length_take,List.length_drop]
 omega
def rSlT (K:PySem.W.Frag):V->Option Int->Option Int->Hp->VK->Prop:=fun x lo hi H Q=>∃ a xs,x = .ref a/\SqT K H a xs/\
 ¬ (HT.sIx xs.length 0 lo=0/\HT.sIx xs.length xs.length hi=xs.length)/\∀ p,H p=none->Q (.ref p) (upd H p (.tup (cutV xs lo hi)))
theorem sl_tup:SlR X (rSlT X.K):=by
 intro pins s σ H x v vl vu lo hi sl Q I rx hs pl pu h
 obtain⟨a,xs,rfl,hx,hw,q⟩:=h
 cases rx
 obtain⟨its,r,ht,hz⟩:=I.tuple hx
 have hlen:its.toArray.size=xs.length:=by rw[List.size_toArray]; exact r.length.symm
 refine⟨"tuple",_,PyProof.Rows.slot_tuple_getitem.lookup,ht.typeIs,?_⟩
 refine HT.getItem_tuple_cut ht hs pl pu (by rw[hlen]; exact hw) ?_ (by rw[hlen]; exact hz)
 rw[hlen]
 refine⟨.ref s.heap.objs.size,_,I.laid (t':=s.toks) (o:=.tup (cutV xs lo hi)) (fun b ob q=>Heap.get?_push_of_some _ q) (Nat.le_refl _) ?_,rfl,q _ (I.hok.fresh (Nat.le_refl _))⟩
 exact⟨Nat.le_trans (cutV_length xs lo hi) hz,_,(r.drop (HT.sIx xs.length 0 lo)).take (HT.sIx xs.length xs.length hi - HT.sIx xs.length 0 lo),IsTup.new _ _⟩
def rCatT (K:PySem.W.Frag):R2:=fun x y H Q=>∃ a b xs ys,x = .ref a/\y = .ref b/\SqT K H a xs/\SqT K H b ys/\xs≠[]/\xs.length+ys.length<=sizeLine/\
 (ys=[]->Q (.ref a) H)/\(ys≠[]->∀ p,H p=none->Q (.ref p) (upd H p (.tup (xs++ys))))
theorem Vals.nil_iff {xs:List V} {us:List Value} (r:Vals xs us):us=[] ↔ xs=[]:=by
 cases r with
 | nil=>simp
 | cons _ _=>simp
theorem op_catT:OpR X (binaryOp .Add) (rCatT X.K):=by
 intro pins s σ H x y v u Q I rx ry h
 obtain⟨a,b,xs,ys,rfl,rfl,ha,hb,hx,hz,q1,q2⟩:=h
 cases rx
 cases ry
 obtain⟨its,r1,p1,_⟩:=I.tuple ha
 obtain⟨its2,r2,p2,_⟩:=I.tuple hb
 refine HT.cat_tup p1 p2 (fun z=>hx (r1.nil_iff.mp z)) (fun z=>⟨.ref a,H,I,rfl,q1 (r2.nil_iff.mp z)⟩) (fun z=>?_) (by rw[<- r1.length,<- r2.length]; exact hz)
 refine⟨.ref s.heap.objs.size,_,I.laid (t':=s.toks) (o:=.tup (xs++ys)) (fun b ob q=>Heap.get?_push_of_some _ q) (Nat.le_refl _) ?_,rfl,q2 (fun w=>z (r2.nil_iff.mpr w)) _ (I.hok.fresh (Nat.le_refl _))⟩
 exact⟨by rw[List.length_append]; exact hz,_,r1.append r2,IsTup.new _ _⟩
end
end L2
namespace L2
open PySem PySem.Spec PyProof.Rows
def ixN (n:Nat) (i:Int):Option Nat:=if 0<=i then (if i<n then some i.toNat else none) else if -(n:Int)<=i then some (i+n).toNat else none
def atI {α : Type} (xs:List α) (i:Int):Option α:=(ixN xs.length i).bind fun j=>xs[j]?
theorem ixN_seq {n:Nat} {i:Int} {j:Nat} (h:ixN n i=some j):seqIndex? i n=some j/\j<n/\-(n:Int)<=i/\i<n:=by
 unfold ixN at h
 by_cases h0:0<=i
 ·rw[if_pos h0]at h
  by_cases h1:i<n
  ·rw[if_pos h1]at h
   have e:i.toNat=j:=Option.some.inj h
   exact⟨by rw[seqIndex_of h0 h1,e],by omega,by omega,h1⟩
  ·rw[if_neg h1]at h; cases h
 ·rw[if_neg h0]at h
  by_cases h1:-(n:Int)<=i
  ·rw[if_pos h1]at h
   have e:(i+n).toNat=j:=Option.some.inj h
   exact⟨by rw[seqIndex_neg (by omega) h1,e],by omega,h1,by omega⟩
  ·rw[if_neg h1]at h; cases h
theorem atI_get {α : Type} {xs:List α} {i:Int} {v:α} (h:atI xs i=some v):∃ j,seqIndex? i xs.length=some j/\xs[j]? = some v/\j<xs.length/\-(xs.length:Int)<=i/\i<xs.length:=by
 unfold atI at h
 cases e:ixN xs.length i with
 | none=>rw[e]at h; cases h
 | some j=>
  rw[e]at h
  obtain⟨h1,h2,h3,h4⟩:=ixN_seq e
  exact⟨j,h1,h,h2,h3,h4⟩
theorem atI_nat {α : Type} {xs:List α} {j:Nat} {v:α} (h:xs[j]? = some v):atI xs (j:Int)=some v:=by
 have hj:j<xs.length:=(List.getElem?_eq_some_iff.mp h).1
 have e:ixN xs.length (j:Int)=some j:=by
  unfold ixN
  rw[if_pos (by omega),if_pos (by omega)]; simp
 unfold atI; rw[e]; exact h
theorem atI_last {α : Type} (xs:List α) (v:α):atI (xs++[v]) (-1)=some v:=by
 have hl:(xs++[v]).length=xs.length+1:=by simp
 have e:ixN (xs++[v]).length (-1)=some xs.length:=by
  unfold ixN
  rw[hl,if_neg (by decide),if_pos (by omega)]
  congr 1
  omega
 unfold atI
 rw[e]
 show (xs++[v])[xs.length]? = some v
 simp
def PlainIx (b:Expr):Prop:=∀ o i,subscripted b false o i=operate [o,i] (getItem o i)
def IxR (X:Cx) (r:R2):Prop:=
 ∀ (value slice:Expr) (pins:List (Addr × Obj)) (s:Shared) (σ : St) (H:Hp) (x y:V) (v u:Value) (Q:VK),Inv X pins σ H s->RelV x v->RelV y u->r x y H Q->
  subscripted slice false v u=operate [v,u] (getItem v u)->wpAny (model X.prog X.w) X.A (subscriptTail value slice v u) (EP X pins σ Q) X.xe s
def MtR (X:Cx) (id:String) (r:V->List V->Hp->VK->Prop):Prop:=
 ∀ (pins:List (Addr × Obj)) (s:Shared) (σ : St) (H:Hp) (x:V) (xs:List V) (v:Value) (us:List Value) (Q:VK),Inv X pins σ H s->RelV x v->Vals xs us->r x xs H Q->
  wpAny (model X.prog X.w) X.A (call (.builtin id) (v::us)) (EP X pins σ Q) X.xe s
section
variable {X:Cx} {a b:Expr} {ta tb:TE} {pos:Pos}
theorem pe_ix {r:R2} (hr:IxR X r) (ha:PE X a ta) (hb:PE X b tb) (hs:PlainIx b):PE X (.Subscript a b pos) (tOp r ta tb):=by
 intro pins s σ H Q I h
 exact Subscript_ (binT ha hb I h fun v u s2 x y H2 I2 rx ry q=>hr a b pins s2 σ H2 x y v u Q I2 rx ry q (hs _ _))
def rIxL (K:PySem.W.Frag):R2:=fun x y H Q=>∃ p xs i v,x = .ref p/\y = .int i/\SqL K H p xs/\atI xs i=some v/\Q v H
def rIxT (K:PySem.W.Frag):R2:=fun x y H Q=>∃ p xs i v,x = .ref p/\y = .int i/\SqT K H p xs/\atI xs i=some v/\Q v H
theorem ix_list:IxR X (rIxL X.K):=by
 intro value slice pins s σ H x y v u Q I rx ry h hs
 obtain⟨p,xs,i,z,rfl,rfl,hq,he,q⟩:=h
 cases rx
 obtain⟨t,rfl⟩:=ry
 obtain⟨its,r,pl,hz⟩:=I.list hq
 obtain⟨j,h1,h2,h3,h4,h5⟩:=atI_get he
 obtain⟨w,ew,rw'⟩:=r.get h2
 have hl:=r.length
 have hn:=line63
 have fin:EP X pins σ Q w s:=⟨z,H,I,rw',q⟩
 by_cases h0:0<=i
 ·have hj:i.toNat=j:=by
   rw[seqIndex_of h0 h5]at h1
   exact Option.some.inj h1
  exact item_listR pl.isList h0 (by omega) (by rw[hj]; simpa using ew) fin hs
 ·have hj:(i+(its.toArray.size:Int)).toNat=j:=by
   rw[seqIndex_neg (by omega) h4]at h1
   rw[List.size_toArray,<- hl]
   exact Option.some.inj h1
  exact subscriptTail_builtinR (x:=w) pl.isList.typeIs slot_list_getitem.lookup
   (wpAny_getItem_list_neg (Q:=fun r s'=>r=w/\EP X pins σ Q r s') pl.isList (by omega) (by rw[List.size_toArray] <;> omega) (by omega) (by rw[hj]; simpa using ew) ⟨rfl,fin⟩) hs
theorem ix_tup:IxR X (rIxT X.K):=by
 intro value slice pins s σ H x y v u Q I rx ry h hs
 obtain⟨p,xs,i,z,rfl,rfl,hq,he,q⟩:=h
 cases rx
 obtain⟨t,rfl⟩:=ry
 obtain⟨its,r,pl,hz⟩:=I.tuple hq
 obtain⟨j,h1,h2,h3,h4,h5⟩:=atI_get he
 obtain⟨w,ew,rw'⟩:=r.get h2
 have hl:=r.length
 have hn:=line63
 have fin:EP X pins σ Q w s:=⟨z,H,I,rw',q⟩
 exact subscriptTail_builtinR (x:=w) pl.typeIs slot_tuple_getitem.lookup
  (getItem_tuple (j:=j) (Q:=fun r s'=>r=w/\EP X pins σ Q r s') pl (by omega) (by omega) (by rw[List.size_toArray,<- hl]; exact h1) (by simpa using ew) ⟨rfl,fin⟩) hs
theorem slice_bounds (lo hi:Option Int) (n:Nat):(sliceBounds lo hi none n).1=((HT.sIx n 0 lo:Nat):Int)/\(sliceBounds lo hi none n).2.1=((HT.sIx n n hi:Nat):Int)/\(sliceBounds lo hi none n).2.2=1:=by
 refine⟨?_,?_,rfl⟩
 ·cases lo with
  | none=>simp [sliceBounds,HT.sIx]
  | some i=>
   simp only[sliceBounds,HT.sIx,Option.getD_none,show (1:Int) > 0 by decide,if_true]
   by_cases h:i<0
   ·simp only[h,if_true] <;> omega
   ·simp only[h,if_false] <;> omega
 ·cases hi with
  | none=>simp [sliceBounds,HT.sIx]
  | some i=>
   simp only[sliceBounds,HT.sIx,Option.getD_none,show (1:Int) > 0 by decide,if_true]
   by_cases h:i<0
   ·simp only[h,if_true] <;> omega
   ·simp only[h,if_false] <;> omega
theorem slicePick_cut (its:List Value) (lo hi:Option Int):slicePick its.toArray lo hi none=((its.drop (HT.sIx its.length 0 lo)).take (HT.sIx its.length its.length hi - HT.sIx its.length 0 lo)).toArray:=by
 obtain⟨h1,h2,h3⟩:=slice_bounds lo hi its.toArray.size
 unfold slicePick
 rw[h1,h2,h3]
 simp only[sliceRange_one,pick_run,List.size_toArray] <;> rfl
def rSlL (K:PySem.W.Frag):V->Option Int->Option Int->Hp->VK->Prop:=fun x lo hi H Q=>∃ a xs,x = .ref a/\SqL K H a xs/\∀ p,H p=none->Q (.ref p) (upd H p (.lst (cutV xs lo hi)))
theorem sl_list:SlR X (rSlL X.K):=by
 intro pins s σ H x v vl vu lo hi sl Q I rx hs pl pu h
 obtain⟨a,xs,rfl,hx,q⟩:=h
 cases rx
 obtain⟨its,r,ht,hz⟩:=I.list hx
 have hlen:=r.length
 refine⟨"list",_,slot_list_getitem.lookup,ht.isList.typeIs,?_⟩
 refine wpAny_getItem_list_slice ht.isList hs pl pu .none (by simp) ?_ (by rw[List.size_toArray] <;> omega)
 rw[slicePick_cut,<- hlen]
 refine⟨.ref s.heap.objs.size,_,I.laid (t':=s.toks) (o:=.lst (cutV xs lo hi)) (fun b ob q=>Heap.get?_push_of_some _ q) (Nat.le_refl _) ?_,rfl,q _ (I.hok.fresh (Nat.le_refl _))⟩
 exact⟨Nat.le_trans (cutV_length xs lo hi) hz,_,0,(r.drop (HT.sIx xs.length 0 lo)).take (HT.sIx xs.length xs.length hi - HT.sIx xs.length 0 lo),Heap.get?_push_size _ rfl⟩
def flatV:V->Bool
 | .non=>true
 | .bl _=>true
 | .int _=>true
 | .str _=>true
 | _=>false
def eqV:V->V->Bool
 | .non,.non=>true
 | .bl a,.bl b=>a == b
 | .bl a,.int b=>(if a then 1 else 0) == b
 | .int a,.bl b=>a == (if b then 1 else 0)
 | .int a,.int b=>a == b
 | .str a,.str b=>a == b
 | _,_=>false
theorem eqAt_V {A:Around} {s:Shared} {y x:V} {u v:Value} (ry:RelV y u) (rx:RelV x v) (fy:flatV y=true) (fx:flatV x=true):SeqAt.EqAt A s u v (eqV y x):=by
 cases y with
 | non=>
  cases ry
  cases x with
  | non=>cases rx; exact SeqAt.EqAt.same _
  | bl b=>cases rx; exact SeqAt.EqAt.none_bool b
  | int b=>obtain⟨t,rfl⟩:=rx; exact SeqAt.EqAt.none_int b t
  | str b=>obtain⟨t,rfl⟩:=rx; exact SeqAt.EqAt.none_str b t
  | _=>exact absurd (show false=true from fx) Bool.false_ne_true
 | bl a=>
  cases ry
  cases x with
  | non=>cases rx; exact SeqAt.EqAt.bool_none a
  | bl b=>cases rx; exact SeqAt.EqAt.bool_bool a b
  | int b=>obtain⟨t,rfl⟩:=rx; exact SeqAt.EqAt.bool_int a b t
  | str b=>obtain⟨t,rfl⟩:=rx; exact SeqAt.EqAt.bool_str a b t
  | _=>exact absurd (show false=true from fx) Bool.false_ne_true
 | int a=>
  obtain⟨t',rfl⟩:=ry
  cases x with
  | non=>cases rx; exact SeqAt.EqAt.int_none a t'
  | bl b=>cases rx; exact SeqAt.EqAt.int_bool a t' b
  | int b=>obtain⟨t,rfl⟩:=rx; exact SeqAt.EqAt.int_int a t' b t
  | str b=>obtain⟨t,rfl⟩:=rx; exact SeqAt.EqAt.int_str a t' b t
  | _=>exact absurd (show false=true from fx) Bool.false_ne_true
 | str a=>
  obtain⟨t',rfl⟩:=ry
  cases x with
  | non=>cases rx; exact SeqAt.EqAt.str_none a t'
  | bl b=>cases rx; exact SeqAt.EqAt.str_bool a t' b
  | int b=>obtain⟨t,rfl⟩:=rx; exact SeqAt.EqAt.str_int a t' b t
  | str b=>obtain⟨t,rfl⟩:=rx; exact SeqAt.EqAt.str_str a t' b t
  | _=>exact absurd (show false=true from fx) Bool.false_ne_true
 | _=>exact absurd (show false=true from fy) Bool.false_ne_true
def eqU (x:V) (u:Value):Bool:=match u with
 | .none=>eqV .non x
 | .bool b=>eqV (.bl b) x
 | .int i _=>eqV (.int i) x
 | .str z _=>eqV (.str z) x
 | _=>false
theorem eqU_of {x y:V} {u:Value} (r:RelV y u) (f:flatV y=true):eqU x u=eqV y x:=by
 cases y with
 | non=>cases r; rfl
 | bl b=>cases r; rfl
 | int i=>obtain⟨t,rfl⟩:=r; rfl
 | str z=>obtain⟨t,rfl⟩:=r; rfl
 | _=>exact absurd (show false=true from f) Bool.false_ne_true
theorem any_eqU {x:V}:∀ {xs:List V} {us:List Value},Vals xs us->xs.all flatV=true->us.any (eqU x)=xs.any fun y=>eqV y x
 | _,_,.nil,_=>rfl
 | y::xs,u::us,.cons r t,f=>by
  rw[List.all_cons,Bool.and_eq_true]at f
  rw[List.any_cons,List.any_cons,eqU_of r f.1,any_eqU t f.2]
theorem mem_eqAt {A:Around} {s:Shared} {x:V} {v:Value} (rx:RelV x v) (fx:flatV x=true):∀ {xs:List V} {us:List Value},Vals xs us->xs.all flatV=true->∀ u∈us,SeqAt.EqAt A s u v (eqU x u)
 | _,_,.nil,_=>fun u hu=>by cases hu
 | y::xs,u::us,.cons r t,f=>fun u' hu=>by
  rw[List.all_cons,Bool.and_eq_true]at f
  rcases List.mem_cons.mp hu with rfl | hu
  ·rw[eqU_of r f.1]; exact eqAt_V r rx f.1 fx
  ·exact mem_eqAt rx fx t f.2 u' hu
def inV (x:V) (xs:List V):Bool:=xs.any fun y=>eqV y x
def rIn (K:PySem.W.Frag) (neg:Bool):R2:=fun x y H Q=>∃ p xs,y = .ref p/\(SqL K H p xs\/SqT K H p xs)/\flatV x=true/\xs.all flatV=true/\Q (.bl (if neg then !inV x xs else inV x xs)) H
theorem op_notIn_seq:OpR X (compareOp .NotIn) (rIn X.K true):=by
 intro pins s σ H x y v u Q I rx ry h
 obtain⟨p,xs,rfl,hq,fx,fs,q⟩:=h
 cases ry
 rcases hq with hq | hq
 ·obtain⟨its,r,pl,hz⟩:=I.list hq
  refine SeqAt.notIn_listAt (eqU x) pl.isList (fun w hw=>mem_eqAt rx fx r fs w (by simpa using hw)) ⟨.bl _,H,I,rfl,?_⟩
  rw[show its.toArray.any (eqU x)=its.any (eqU x) by simp,any_eqU r fs]
  exact q
 ·obtain⟨its,r,pl,hz⟩:=I.tuple hq
  refine SeqAt.notIn_tupleAt (eqU x) pl (fun w hw=>mem_eqAt rx fx r fs w (by simpa using hw)) ⟨.bl _,H,I,rfl,?_⟩
  rw[show its.toArray.any (eqU x)=its.any (eqU x) by simp,any_eqU r fs]
  exact q
theorem call_len_seq:CallR X (.builtin "len") (fun xs H Q=>∃ p ys,xs=[.ref p]/\(SqL X.K H p ys\/SqT X.K H p ys)/\Q (.int ys.length) H):=by
 intro pins s σ H xs us Q I r h
 obtain⟨p,ys,rfl,hq,q⟩:=h
 obtain⟨u,rfl,rx⟩:=vals1 r
 cases rx
 have hn:=line63
 rcases hq with hq | hq
 ·obtain⟨its,r',pl,hz⟩:=I.list hq
  have hlen:=r'.length
  exact Calls.call_len_list pl.isList (by simp only[List.size_toArray] <;> omega) ⟨.int ys.length,H,I.tok _,⟨s.toks+1,by rw[List.size_toArray,hlen]⟩,q⟩
 ·obtain⟨its,r',pl,hz⟩:=I.tuple hq
  have hlen:=r'.length
  exact len_tuple pl (by simp only[List.size_toArray] <;> omega) ⟨.int ys.length,H,I.tok _,⟨s.toks+1,by rw[List.size_toArray,hlen]⟩,q⟩
theorem call_len_str:CallR X (.builtin "len") (fun xs H Q=>∃ z,xs=[.str z]/\z.length<=sizeLine/\Q (.int z.length) H):=by
 intro pins s σ H xs us Q I r h
 obtain⟨z,rfl,hz,q⟩:=h
 obtain⟨u,rfl,t,rfl⟩:=vals1 r
 have hn:=line63
 exact len_str (by omega) ⟨.int z.length,H,I.tok _,⟨_,rfl⟩,q⟩
theorem call_tuple_of:CallR X (.type "tuple") (fun xs H Q=>∃ p ys,xs=[.ref p]/\((SqL X.K H p ys/\∀ l,H l=none->Q (.ref l) (upd H l (.tup ys)))\/(SqT X.K H p ys/\Q (.ref p) H))):=by
 intro pins s σ H xs us Q I r h
 obtain⟨p,ys,rfl,h⟩:=h
 obtain⟨u,rfl,rx⟩:=vals1 r
 cases rx
 rcases h with ⟨hq,q⟩ | ⟨hq,q⟩
 ·obtain⟨its,r',pl,hz⟩:=I.list hq
  have hlen:=r'.length
  refine call_tuple_list pl.isList (fun h' kp=>?_) (by simp only[List.size_toArray] <;> omega)
  have I1:Inv X pins σ H { s with heap:=h' }:=I.kept (t':=s.toks) kp
  have I2:Inv X pins σ (upd H h'.objs.size (.tup ys)) { s with heap:=h'.push { cls:=.type "tuple",data:=.seq its.toArray } }:=
   I1.laid (t':=s.toks) (fun b o e=>Heap.get?_push_of_some _ e) (Nat.le_refl _) (show ObjOk X.prog X.w _ _ _ (.tup ys) from ⟨hz,its,r',IsTup.new _ _⟩)
  exact⟨.ref h'.objs.size,_,I2,rfl,q _ (I1.hok.fresh (Nat.le_refl _))⟩
 ·obtain⟨its,r',pl,hz⟩:=I.tuple hq
  exact call_tuple_same pl ⟨.ref p,H,I,rfl,q⟩
def tyV (K:PySem.W.Frag) (T:String) (x:V) (H:Hp):Prop:=match x with
 | .str _=>T = "str"
 | .int _=>T = "int"
 | .ref p=>(T = "list"/\∃ xs,SqL K H p xs)\/(T = "tuple"/\∃ o,K.lookup p=some o/\o.cls = .type "tuple"/\o.dict=none)\/
   (T = "dict"/\((∃ kvs,H p=some (.dK kvs))\/∃ kvs,H p=some (.dT kvs)))\/(T = "set"/\∃ S n,H p=some (.set S n))
 | _=>False
theorem tyV_is {pins:List (Addr × Obj)} {σ : St} {H:Hp} {s:Shared} {T:String} {x:V} {v:Value} (I:Inv X pins σ H s) (r:RelV x v) (ty:tyV X.K T x H) :
  s.TypeIs v T/\∀ a,v = .ref a->∃ ob,s.heap.get? a=some ob/\ob.dict=none:=by
 cases x with
 | str z=>
  obtain⟨t,rfl⟩:=r
  cases (show T = "str" from ty)
  exact⟨typeIs_str s z t,fun _ e=>nomatch e⟩
 | int i=>
  obtain⟨t,rfl⟩:=r
  cases (show T = "int" from ty)
  exact⟨typeIs_int s i t,fun _ e=>nomatch e⟩
 | ref p=>
  cases r
  rcases ty with ⟨rfl,xs,hq⟩ | ⟨rfl,o,hk,hc,hd⟩ | ⟨rfl,hk⟩ | ⟨rfl,S,n,hk⟩
  ·obtain⟨its,_,pl,_⟩:=I.list hq
   refine⟨pl.isList.typeIs,fun a e=>?_⟩
   cases e
   obtain⟨o,n,e,c,hd,_⟩:=pl
   exact⟨o,e,hd⟩
  ·refine⟨⟨o,I.kIn p o hk,hc⟩,fun a e=>?_⟩
   cases e
   exact⟨o,I.kIn _ o hk,hd⟩
  ·have z:∃ o,s.heap.get? p=some o/\o.ExactDict:=by
    rcases hk with ⟨kvs,hk⟩ | ⟨kvs,hk⟩
    ·obtain⟨_,_,_,_,o,_,_,e,ex,_⟩:=I.hok p _ hk
     exact⟨o,e,ex⟩
    ·obtain⟨_,_,_,_,o,_,_,e,ex,_⟩:=I.hok p _ hk
     exact⟨o,e,ex⟩
   obtain⟨o,e,ex⟩:=z
   refine⟨⟨o,e,ex.1⟩,fun a e2=>?_⟩
   cases e2
   exact⟨o,e,ex.2.1⟩
  ·obtain⟨o,_,_,_,e,ex,_⟩:=I.hok p _ hk
   refine⟨⟨o,e,ex.1⟩,fun a e2=>?_⟩
   cases e2
   exact⟨o,e,ex.2.1⟩
 | _=>exact False.elim ty
def tBM0 (K:PySem.W.Frag) (T:String) (r:V->List V->Hp->VK->Prop) (to:TE):TE:=fun σ H Q=>to σ H fun x H1=>tyV K T x H1/\r x [] H1 Q
def tBM (K:PySem.W.Frag) (T:String) (r:V->List V->Hp->VK->Prop) (to:TE) (t:TA):TE:=fun σ H Q=>to σ H fun x H1=>tyV K T x H1/\t σ H1 fun xs H2=>r x xs H2 Q
variable {o e:Expr} {es:List Expr} {to:TE} {t:TA} {name:Str} {apos cpos:Pos} {T id:String} {r:V->List V->Hp->VK->Prop}
theorem pe_bm0 (pa:PlainAttrs T) (slot:Slot T name id) (hty:typeOf (.builtin id)=pure (.type "method_descriptor")) (hm:MtR X id r) (ho:PE X o to)
  (hbase:attributeBase o name X.env (eval o X.env)=eval o X.env:=by rfl) (hline:(apos.endLine == cpos.line)=true:=by rfl):PE X (.Call (.Attribute o name apos) [] [] cpos) (tBM0 X.K T r to):=by
 intro pins s σ H Q I h
 refine wpAny_Call_method0_late hbase hline (thn (ho pins s σ H _ I h) fun v s1 ⟨x,H1,I1,r1,ty,q1⟩=>?_)
 obtain⟨h1,h2⟩:=tyV_is I1 r1 ty
 exact⟨T,id,pa,slot,hty,h1,h2,Calls.callWith_builtin rfl (PySem.evalArgs_none (hm pins s1 σ H1 x [] v [] Q I1 r1 .nil q1))⟩
theorem pe_bm (pa:PlainAttrs T) (slot:Slot T name id) (hty:typeOf (.builtin id)=pure (.type "method_descriptor")) (hm:MtR X id r) (ho:PE X o to) (ha:PA X (e::es) t)
  (hbase:attributeBase o name X.env (eval o X.env)=eval o X.env:=by rfl)
  (hfew:((backTo cpos (starEach (e::es) X.env)).all (fun x=>!x.1) && (backToKw cpos (keywordEach [] X.env)).all (fun x=>x.1.isSome)
   && decide ((e::es).length+([]:List Keyword).length+(if ([]:List Keyword).isEmpty then 0 else 1)<30))=true:=by rfl)
  (hline:(apos.endLine == cpos.line)=true:=by rfl) (hs:starEach (e::es) X.env=(false,eval e X.env)::starEach es X.env:=by rfl) (hplain:(backTo cpos (starEach es X.env)).any (·.1)=false:=by rfl) :
  PE X (.Call (.Attribute o name apos) (e::es) [] cpos) (tBM X.K T r to t):=by
 intro pins s σ H Q I h
 refine wpAny_Call_method_late hbase hfew hline rfl (thn (ho pins s σ H _ I h) fun v s1 ⟨x,H1,I1,r1,ty,q1⟩=>?_)
 obtain⟨h1,h2⟩:=tyV_is I1 r1 ty
 refine⟨T,id,pa,slot,hty,h1,h2,?_⟩
 have hA:=ha cpos pins s1 σ H1 _ I1 q1
 rw[hs]at hA ⊢
 refine Calls.callWith_builtin (by show (false || (backTo cpos (starEach es X.env)).any (·.1))=false; rw[hplain] <;> rfl) (Calls.evalArgs_plain ?_)
 exact thn hA fun us s2 ⟨vs,H2,I2,r2,q2⟩=>hm pins s2 σ H2 x vs v us Q I2 r1 r2 q2
end
end L2
namespace L2
open PySem PySem.Spec PyProof.Rows
def MtM (X:Cx) (id:String) (r:V->List V->Hp->VK->Prop):Prop:=
 ∀ (pins:List (Addr × Obj)) (s:Shared) (σ : St) (H:Hp) (x:V) (xs:List V) (v:Value) (us:List Value) (Q:VK),Inv X pins σ H s->RelV x v->Vals xs us->r x xs H Q->
  wpAny (model X.prog X.w) X.A (call (.builtin id) (v::us)) (EP X pins σ Q) X.xe s
theorem Vals.one:∀ {x:V} {us:List Value},Vals [x] us->∃ u,us=[u]/\RelV x u
 | _,_,.cons r .nil=>⟨_,rfl,r⟩
section
variable {X:Cx} {pins:List (Addr × Obj)} {σ : St} {H:Hp} {s:Shared} {l b:Addr} {xs ys zs:List V}
theorem Inv.lset {its its':List Value} {n:Nat} {f:Array Value->Array Value} {t':Nat} (I:Inv X pins σ H s) (hH:H l=some (.lst xs))
  (e:s.heap.get? l=some { cls:=.type "list",data:=.seq its.toArray n }) (hf:f its.toArray=its'.toArray) (hv:Vals ys its') (hz:ys.length<=sizeLine) :
  Inv X pins σ (upd H l (.lst ys)) { s with heap:=s.heap.update l (Obj.mapSeq f),toks:=t' }:=by
 have q:=PySem.IsL.update e f
 rw[hf]at q
 refine I.write (x:=l) (e:=l) (by rw[hH]; exact trivial) (.inl rfl) (fun b' u hb hu=>(Heap.get?_update_other s.heap (Obj.mapSeq f) (Ne.symm hb)).trans hu) ⟨_,q⟩ ?_
 exact⟨hz,its',_,hv,q⟩
theorem Inv.lnew {its:List Value} {t':Nat} (I:Inv X pins σ H s) (hv:Vals ys its) (hz:ys.length<=sizeLine) :
  Inv X pins σ (upd H s.heap.objs.size (.lst ys)) { s with heap:=s.heap.push { cls:=.type "list",data:=.seq its.toArray },toks:=t' }:=
 I.laid (fun _ _ q=>Heap.get?_push_of_some _ q) (Nat.le_refl _) ⟨hz,its,0,hv,Heap.get?_push_size _ rfl⟩
theorem Inv.fresh (I:Inv X pins σ H s):H s.heap.objs.size=none:=I.hok.fresh (Nat.le_refl _)
theorem Inv.lstM (I:Inv X pins σ H s) (hH:H l=some (.lst xs)):xs.length<=sizeLine/\∃ (its:List Value) (n:Nat),Vals xs its/\xs.length=its.length/\s.heap.get? l=some { cls:=.type "list",data:=.seq its.toArray n }:=by
 obtain⟨z,its,n,r,e⟩:=I.hok l _ hH
 exact⟨z,its,n,r,r.length,e⟩
end
section
variable {X:Cx}
def rAppend:V->List V->Hp->VK->Prop:=fun x vs H Q=>∃ l xs y,x = .ref l/\vs=[y]/\H l=some (.lst xs)/\xs.length<sizeLine/\Q .non (upd H l (.lst (xs++[y])))
theorem mt_append:MtM X "list.append" rAppend:=by
 intro pins s σ H x vs v us Q I rx rv h
 obtain⟨l,xs,y,rfl,rfl,hH,hz,q⟩:=h
 cases rx
 obtain⟨u,rfl,ru⟩:=rv.one
 obtain⟨z,its,n,r,hl,e⟩:=I.lstM hH
 refine call_meets F.slot_list_append ⟨_,e,rfl⟩ F.entry_list_append (F.args_list_append_2 _ _) (PySem.list_append l its.toArray n u (by rw[List.size_toArray]; omega)) ⟨e,?_⟩
 refine⟨.non,_,I.lset (its':=its++[u]) hH e (by simp) (r.append (.cons ru .nil)) ?_,rfl,q⟩
 rw[List.length_append,List.length_singleton]
 omega
def rCat:R2:=fun x y H Q=>∃ l b xs zs,x = .ref l/\y = .ref b/\H l=some (.lst xs)/\H b=some (.lst zs)/\xs.length+zs.length<=sizeLine/\∀ p,H p=none->Q (.ref p) (upd H p (.lst (xs++zs)))
theorem op_cat:OpR X (binaryOp .Add) rCat:=by
 intro pins s σ H x y v u Q I rx ry h
 obtain⟨l,b,xs,zs,rfl,rfl,hH,hB,hz,q⟩:=h
 cases rx
 cases ry
 obtain⟨z,its,n,r,hl,e⟩:=I.lstM hH
 obtain⟨z2,its2,n2,r2,hl2,e2⟩:=I.lstM hB
 refine PySem.P.add_list e e2 ?_ (by rw[List.size_toArray,List.size_toArray]; omega)
 have ea:its.toArray++its2.toArray=(its++its2).toArray:=by simp
 rw[ea]
 exact⟨.ref _,_,I.lnew (t':=s.toks) (r.append r2) (by rw[List.length_append]; omega),rfl,q _ I.fresh⟩
end
section
variable {prog:Program} {w:World} {A:Around} {E:Value->Shared->Prop} {s:Shared}
end
section
variable {X:Cx}
end
end L2
namespace L2
open PySem PySem.Spec PyProof.Rows
section
variable {κ : Type} [DecidableEq κ]
def valV (kvs:List (κ × V)) (k:κ):Option V:=(kvs.find? fun kv=>decide (kv.1=k)).map (·.2)
def putK (kvs:List (κ × V)) (k:κ) (v:V):List (κ × V):=
 if (kvs.any fun kv=>decide (kv.1=k))=true then kvs.map (fun kv=>if kv.1=k then (kv.1,v) else kv) else kvs++[(k,v)]
def dropK (kvs:List (κ × V)) (k:κ):List (κ × V):=kvs.filter fun kv=>decide (kv.1≠k)
theorem valV_pos {p:κ × V} {r:List (κ × V)} {k:κ} (e:p.1=k):valV (p::r) k=some p.2:=by simp [valV,List.find?_cons,e]
theorem valV_neg {p:κ × V} {r:List (κ × V)} {k:κ} (e:¬ p.1=k):valV (p::r) k=valV r k:=by simp [valV,List.find?_cons,e]
theorem valV_any (k:κ):∀ kvs:List (κ × V),(kvs.any fun kv=>decide (kv.1=k))=(valV kvs k).isSome
 | []=>rfl
 | p::r=>by
  rw[List.any_cons]
  by_cases e:p.1=k
  ·simp only[valV_pos e,decide_eq_true e,Bool.true_or,Option.isSome_some]
  ·rw[valV_neg e,decide_eq_false e,Bool.false_or]; exact valV_any k r
theorem length_putK (kvs:List (κ × V)) (k:κ) (v:V):(putK kvs k v).length<=kvs.length+1:=by
 unfold putK
 split
 ·rw[List.length_map]; omega
 ·rw[List.length_append,List.length_cons,List.length_nil]; omega
theorem putK_new {kvs:List (κ × V)} {k:κ} (v:V) (h:valV kvs k=none):putK kvs k v=kvs++[(k,v)]:=by
 unfold putK
 rw[valV_any,h]
 exact if_neg (by decide)
theorem RelO.isSome_eq {o:Option V} {u:Option Value} (r:RelO o u):o.isSome=u.isSome:=by
 cases o with
 | none=>cases u with
  | none=>rfl
  | some _=>exact(show False from r).elim
 | some _=>cases u with
  | none=>exact(show False from r).elim
  | some _=>rfl
theorem KV.val {kvs:List (κ × V)} {vs:List (κ × Value)} (r:KV kvs vs) (k:κ):RelO (valV kvs k) (valueAt vs k):=by
 unfold KV at r
 induction r with
 | nil=>exact True.intro
 | @cons p q ps qs h t ih=>
  obtain⟨h1,h2⟩:=h
  by_cases e:p.1=k
  ·have e':q.1=k:=h1.symm.trans e
   have b:valueAt (q::qs) k=some q.2:=by simp [valueAt,List.find?_cons,e']
   rw[valV_pos e,b]; exact h2
  ·have e':¬ q.1=k:=fun z=>e (h1.trans z)
   have b:valueAt (q::qs) k=valueAt qs k:=by simp [valueAt,List.find?_cons,e']
   rw[valV_neg e,b]; exact ih
theorem KV.any {kvs:List (κ × V)} {vs:List (κ × Value)} (r:KV kvs vs) (k:κ):(kvs.any fun kv=>decide (kv.1=k))=vs.any fun kv=>decide (kv.1=k):=by
 unfold KV at r
 induction r with
 | nil=>rfl
 | cons h t ih=>rw[List.any_cons,List.any_cons,ih,h.1]
theorem KV.repl {kvs:List (κ × V)} {vs:List (κ × Value)} (r:KV kvs vs) (k:κ) {y:V} {u:Value} (ry:RelV y u) :
  KV (kvs.map fun kv=>if kv.1=k then (kv.1,y) else kv) (vs.map fun kv=>if kv.1=k then (kv.1,u) else kv):=by
 unfold KV at r ⊢
 induction r with
 | nil=>exact .nil
 | @cons p q ps qs h t ih=>
  rw[List.map_cons,List.map_cons]
  refine .cons ?_ ih
  obtain⟨h1,h2⟩:=h
  by_cases e:p.1=k
  ·rw[if_pos e,if_pos (h1.symm.trans e)]; exact⟨h1,ry⟩
  ·rw[if_neg e,if_neg (fun z=>e (h1.trans z))]; exact⟨h1,h2⟩
theorem KV.put {kvs:List (κ × V)} {vs:List (κ × Value)} (r:KV kvs vs) (k:κ) {y:V} {u:Value} (ry:RelV y u):KV (putK kvs k y) (stored vs k u):=by
 unfold putK stored
 rw[r.any k]
 by_cases e:(vs.any fun kv=>decide (kv.1=k))=true
 ·rw[if_pos e,if_pos e]; exact r.repl k ry
 ·rw[if_neg e,if_neg e]; exact Paired.snoc r ⟨rfl,ry⟩
theorem KV.drop {kvs:List (κ × V)} {vs:List (κ × Value)} (r:KV kvs vs) (k:κ):KV (dropK kvs k) (without vs k):=by
 unfold KV at r ⊢
 unfold dropK without
 induction r with
 | nil=>exact .nil
 | @cons p q ps qs h t ih=>
  obtain⟨h1,h2⟩:=h
  rw[List.filter_cons,List.filter_cons]
  by_cases e:p.1=k
  ·have a:¬ decide (p.1≠k)=true:=by simp [e]
   have b:¬ decide (q.1≠k)=true:=by simp [h1.symm.trans e]
   rw[if_neg a,if_neg b]; exact ih
  ·have e':¬ q.1=k:=fun z=>e (h1.trans z)
   have a:decide (p.1≠k)=true:=by simp [e]
   have b:decide (q.1≠k)=true:=by simp [e']
   rw[if_pos a,if_pos b]; exact .cons ⟨h1,h2⟩ ih
theorem KV.length {kvs:List (κ × V)} {vs:List (κ × Value)} (r:KV kvs vs):kvs.length=vs.length:=Paired.length r
theorem dropK_le (kvs:List (κ × V)) (k:κ):(dropK kvs k).length<=kvs.length:=List.length_filter_le _ _
end
theorem kV_is {P:Program} {w:World} {k:Key} {u:Value} (r:RelV (kV k) u):(mixKind P w).is k u=true:=by
 cases k with
 | inl i=>obtain⟨t,e⟩:=(show ∃ t,u=Value.int i t from r); subst e; exact mixKind_int P w i t
 | inr x=>obtain⟨t,e⟩:=(show ∃ t,u=Value.str x t from r); subst e; exact mixKind_str P w x t
theorem items_are {P:Program} {w:World}:∀ {ks:List Key} {us:List Value},Vals (ks.map kV) us->ItemsAre (mixKind P w) ks us
 | [],_,r=>by rw[List.map_nil]at r; cases r; exact .nil
 | k::ks,_,r=>by
  rw[List.map_cons]at r
  cases r with
  | cons h t=>exact .cons (kV_is h) (items_are t)
abbrev KT (H:Hp):List (List Key × V)->List (List Key × Addr × Value)->Prop:=Paired fun p q=>p.1=q.1/\H q.2.1=some (.tup (p.1.map kV))/\RelV p.2 q.2.2
theorem KT.val {H:Hp} {kvs:List (List Key × V)} {xs:List (List Key × Addr × Value)} (r:KT H kvs xs) (k:List Key):RelO (valV kvs k) ((atKey xs k).map (·.2)):=by
 induction r with
 | nil=>exact True.intro
 | @cons p q ps qs h t ih=>
  obtain⟨h1,_,h2⟩:=h
  by_cases e:p.1=k
  ·have e':q.1=k:=h1.symm.trans e
   have b:atKey (q::qs) k=some q.2:=by simp [atKey,List.find?_cons,e']
   rw[valV_pos e,b]; exact h2
  ·have e':¬ q.1=k:=fun z=>e (h1.trans z)
   have b:atKey (q::qs) k=atKey qs k:=by simp [atKey,List.find?_cons,e']
   rw[valV_neg e,b]; exact ih
theorem KT.repl {H:Hp} {kvs:List (List Key × V)} {xs:List (List Key × Addr × Value)} (r:KT H kvs xs) (k:List Key) {y:V} {u:Value} (ry:RelV y u) :
  KT H (kvs.map fun kv=>if kv.1=k then (kv.1,y) else kv) (xs.map (putAt k u)):=by
 induction r with
 | nil=>exact .nil
 | @cons p q ps qs h t ih=>
  rw[List.map_cons,List.map_cons]
  refine .cons ?_ ih
  obtain⟨h1,h2,h3⟩:=h
  unfold putAt
  by_cases e:p.1=k
  ·rw[if_pos e,if_pos (h1.symm.trans e)]; exact⟨h1,h2,ry⟩
  ·rw[if_neg e,if_neg (fun z=>e (h1.trans z))]; exact⟨h1,h2,h3⟩
theorem KT.put {H:Hp} {kvs:List (List Key × V)} {xs:List (List Key × Addr × Value)} (r:KT H kvs xs) (k:List Key) {b:Addr} {y:V} {u:Value} (hb:H b=some (.tup (k.map kV))) (ry:RelV y u) :
  KT H (putK kvs k y) (storedH xs k b u):=by
 have e:(kvs.any fun kv=>decide (kv.1=k))=(atKey xs k).isSome:=by
  rw[valV_any,(r.val k).isSome_eq,Option.isSome_map]
 unfold putK storedH
 rw[e]
 by_cases q:(atKey xs k).isSome=true
 ·rw[if_pos q,if_pos q]; exact r.repl k ry
 ·rw[if_neg q,if_neg q]; exact Paired.snoc r ⟨rfl,hb,ry⟩
theorem KT.keeps {H H':Hp} {kvs:List (List Key × V)} {xs:List (List Key × Addr × Value)} (r:KT H kvs xs) (ht:∀ b ys,H b=some (.tup ys)->H' b=some (.tup ys)):KT H' kvs xs:=
 Paired.mapP r fun _ _ z=>⟨z.1,ht _ _ z.2.1,z.2.2⟩
section
variable {P:Program} {w:World} {H:Hp} {h:Heap} {a:Addr}
theorem rd_of {u:HO} (ok:HOk P w H h) (e:Rd H a u):ObjOk P w H h a u:=e.ok ok
theorem dk_rd {kvs:List (Key × V)} (ok:HOk P w H h) (e:Rd H a (.dK kvs)):kvs.length<=sizeLine/\(a == sysModules)=false/\∃ vs,KV kvs vs/\h.DictOf (mixKind P w) a vs:=
 show ObjOk P w H h a (.dK kvs) from rd_of ok e
theorem dk_of {kvs:List (Key × V)} (ok:HOk P w H h) (e:H a=some (.dK kvs)):kvs.length<=sizeLine/\(a == sysModules)=false/\∃ vs,KV kvs vs/\h.DictOf (mixKind P w) a vs:=dk_rd ok (.inl e)
theorem key_of {ks:List Key} (ok:HOk P w H h) (e:H a=some (.tup (ks.map kV))):(tupleKind (mixKind P w)).is h ks a:=by
 obtain⟨_,its,r,o,h1,h2,n,h3⟩:=(show ObjOk P w H h a (.tup (ks.map kV)) from ok a _ e)
 exact⟨o,its.toArray,n,h1,h2,h3,by simpa using items_are r⟩
theorem dt_rd {kvs:List (List Key × V)} (ok:HOk P w H h) (e:Rd H a (.dT kvs)):kvs.length<=sizeLine/\(a == sysModules)=false/\
  ∃ xs,KT H kvs xs/\h.DictOfH (tupleKind (mixKind P w)) a xs:=by
 obtain⟨z,y,xs,r,o,es,ep,h1,h2,h3,h4,h5⟩:=(show ObjOk P w H h a (.dT kvs) from rd_of ok e)
 refine⟨z,y,xs,r,o,es,ep,h1,h2,h3,h4,fun x hx=>?_,h5⟩
 have all:∀ {l:List (List Key × V)} {m:List (List Key × Addr × Value)},KT H l m->∀ x∈m,(tupleKind (mixKind P w)).is h x.1 x.2.1:=by
  intro l m q
  induction q with
  | nil=>intro x hx; exact nomatch hx
  | @cons p q ps qs hq t ih=>
   intro x hx
   rcases List.mem_cons.mp hx with e | hx
   ·subst e
    exact key_of ok (by rw[<- hq.1]; exact hq.2.1)
   ·exact ih x hx
 exact all r x hx
theorem dt_of {kvs:List (List Key × V)} (ok:HOk P w H h) (e:H a=some (.dT kvs)):kvs.length<=sizeLine/\(a == sysModules)=false/\
  ∃ xs,KT H kvs xs/\h.DictOfH (tupleKind (mixKind P w)) a xs:=dt_rd ok (.inl e)
end
def DGet (H:Hp) (a:Addr) (y:V) (r:Option V):Prop:=
 (∃ kvs k,Rd H a (.dK kvs)/\y=kV k/\r=valV kvs k)\/∃ kvs k b,Rd H a (.dT kvs)/\y = .ref b/\H b=some (.tup (k.map kV))/\r=valV kvs k
def DPut (H:Hp) (a:Addr) (y v:V) (H':Hp):Prop:=
 (∃ kvs k,H a=some (.dK kvs)/\y=kV k/\kvs.length<sizeLine/\H'=upd H a (.dK (putK kvs k v)))\/
 ∃ kvs k b,H a=some (.dT kvs)/\y = .ref b/\H b=some (.tup (k.map kV))/\kvs.length<sizeLine/\H'=upd H a (.dT (putK kvs k v))
theorem DGet.k {H:Hp} {a:Addr} {kvs:List (Key × V)} {k:Key} (e:H a=some (.dK kvs)):DGet H a (kV k) (valV kvs k):=.inl ⟨kvs,k,.inl e,rfl,rfl⟩
theorem DPut.k {H:Hp} {a:Addr} {kvs:List (Key × V)} {k:Key} {v:V} (e:H a=some (.dK kvs)) (hl:kvs.length<sizeLine):DPut H a (kV k) v (upd H a (.dK (putK kvs k v))):=.inl ⟨kvs,k,e,rfl,hl,rfl⟩
section
variable {X:Cx} {pins:List (Addr × Obj)} {σ : St} {H:Hp} {s:Shared} {a:Addr} {y v:V} {u r:Value} {o:Option V} {A:Around} {E:Value->Shared->Prop}
theorem Inv.big (I:Inv X pins σ H s):sysModules<s.heap.objs.size:=by
 have h:mainGlobals<s.heap.objs.size:=(I.mod.glob.keeps I.bk).lt
 exact Nat.lt_trans (by decide) h
theorem d_getItem {Q:Value->Shared->Prop} (hu:A.units+1<cLine) (I:Inv X pins σ H s) (g:DGet H a y (some v)) (ry:RelV y u) (h:∀ w' s',Inv X pins σ H s'->RelV v w'->Q w' s') :
  wpAny (model X.prog X.w) A (getItem (.ref a) u) Q E s:=by
 rcases g with ⟨kvs,k,e,ey,l⟩ | ⟨kvs,k,b,e,ey,eb,l⟩
 ·subst ey
  obtain⟨z,hd,vs,rel,dd⟩:=dk_rd I.hok e
  obtain⟨w',hw,rw'⟩:=RelO.some_of (v:=v) (o:=valueAt vs k) (by rw[l]; exact rel.val k)
  exact wpAny_getItem_of (kV_is ry) dd.mapOf hw (h w' _ (I.tok _) rw')
 ·subst ey
  cases (show u=Value.ref b from ry)
  obtain⟨z,hd,xs,rel,dd⟩:=dt_rd I.hok e
  obtain⟨w',hw,rw'⟩:=RelO.some_of (v:=v) (o:=(atKey xs k).map (·.2)) (by rw[l]; exact rel.val k)
  obtain⟨p,hp,hp2⟩:=Option.map_eq_some_iff.mp hw
  refine wpAny_getItem_heap (tupleKind_room_in1 hu) (key_of I.hok eb) dd hp ?_
  rw[hp2]
  exact h w' _ (I.tok _) rw'
theorem d_in {Q:Value->Shared->Prop} (hu:A.units+1<cLine) (I:Inv X pins σ H s) (g:DGet H a y o) (ry:RelV y u) (h:∀ s',Inv X pins σ H s'->Q (.bool o.isSome) s') :
  wpAny (model X.prog X.w) A (compareOp .In u (.ref a)) Q E s:=by
 rcases g with ⟨kvs,k,e,ey,l⟩ | ⟨kvs,k,b,e,ey,eb,l⟩
 ·subst ey
  obtain⟨z,hd,vs,rel,dd⟩:=dk_rd I.hok e
  refine wpAny_in_of (kV_is ry) hd dd.mapOf ?_
  rw[<- (rel.val k).isSome_eq,<- l]
  exact h _ (I.tok _)
 ·subst ey
  cases (show u=Value.ref b from ry)
  obtain⟨z,hd,xs,rel,dd⟩:=dt_rd I.hok e
  refine wpAny_in_heap (tupleKind_room_in1 hu) (key_of I.hok eb) hd dd ?_
  have q:=(rel.val k).isSome_eq
  rw[Option.isSome_map]at q
  rw[<- q,<- l]
  exact h _ (I.tok _)
theorem d_notIn {Q:Value->Shared->Prop} (hu:A.units+1<cLine) (I:Inv X pins σ H s) (g:DGet H a y o) (ry:RelV y u) (h:∀ s',Inv X pins σ H s'->Q (.bool (!o.isSome)) s') :
  wpAny (model X.prog X.w) A (compareOp .NotIn u (.ref a)) Q E s:=by
 rcases g with ⟨kvs,k,e,ey,l⟩ | ⟨kvs,k,b,e,ey,eb,l⟩
 ·subst ey
  obtain⟨z,hd,vs,rel,dd⟩:=dk_rd I.hok e
  refine wpAny_notIn_of (kV_is ry) hd dd.mapOf ?_
  rw[<- (rel.val k).isSome_eq,<- l]
  exact h _ (I.tok _)
 ·subst ey
  cases (show u=Value.ref b from ry)
  obtain⟨z,hd,xs,rel,dd⟩:=dt_rd I.hok e
  refine wpAny_notIn_heap (tupleKind_room_in1 hu) (key_of I.hok eb) hd dd ?_
  have q:=(rel.val k).isSome_eq
  rw[Option.isSome_map]at q
  rw[<- q,<- l]
  exact h _ (I.tok _)
theorem d_write {h':Heap} {t':Nat} {ob:HO} (I:Inv X pins σ H s) (mu:Mut (H a)) (hs:Heap.SameBut a s.heap h') (he:∃ q,h'.get? a=some q) (new:ObjOk X.prog X.w (upd H a ob) h' a ob) :
  Inv X pins σ (upd H a ob) { s with heap:=h',toks:=t' }:=
 I.write (x:=a) (e:=a) mu (.inl rfl) (fun b q hb z=>(hs.2 b hb).trans z) he new
theorem dk_new {P:Program} {w:World} {H':Hp} {h':Heap} {kvs:List (Key × V)} {vs:List (Key × Value)} (z:kvs.length<=sizeLine) (hd:(a == sysModules)=false) (rel:KV kvs vs) (dd:h'.DictOf (mixKind P w) a vs) :
  ObjOk P w H' h' a (.dK kvs):=⟨z,hd,vs,rel,dd⟩
theorem d_setItem {H':Hp} {Q:Unit->Shared->Prop} (hu:A.units+1<cLine) (I:Inv X pins σ H s) (g:DPut H a y v H') (ry:RelV y u) (rv:RelV v r) (h:∀ s',Inv X pins σ H' s'->Q () s') :
  wpAny (model X.prog X.w) A (setItem (.ref a) u r) Q E s:=by
 rcases g with ⟨kvs,k,e,ey,l,eH⟩ | ⟨kvs,k,b,e,ey,eb,l,eH⟩
 ·subst ey eH
  obtain⟨z,hd,vs,rel,dd⟩:=dk_of I.hok e
  have hz:vs.length<=sizeLine:=by rw[<- rel.length]; exact z
  have hl:(putK kvs k v).length<=sizeLine:=by have:=length_putK kvs k v; omega
  refine wpAny_setItem_pairs (hsz:=hz) (kV_is ry) dd fun h' dd' hs=>h _ ?_
  have he:∃ q,h'.get? a=some q:=let ⟨q,_,_,hq,_⟩:=dd'; ⟨q,hq⟩
  exact d_write I (by rw[e]; exact True.intro) hs he (dk_new hl hd (rel.put k rv) dd')
 ·subst ey eH
  cases (show u=Value.ref b from ry)
  obtain⟨z,hd,xs,rel,dd⟩:=dt_of I.hok e
  have hz:xs.length<=sizeLine:=by rw[<- Paired.length rel]; exact z
  have hl:(putK kvs k v).length<=sizeLine:=by have:=length_putK kvs k v; omega
  refine wpAny_setItem_heap (hsz:=hz) (tupleKind_room_in1 hu) (key_of I.hok eb) dd fun h' dd' hs=>h _ ?_
  obtain⟨q,es,ep,hq,h2,h3,h4,_,h5⟩:=dd'
  refine d_write I (by rw[e]; exact True.intro) hs ⟨q,hq⟩ ⟨hl,hd,_,(rel.put k eb rv).keeps fun c ys ec=>?_,q,es,ep,hq,h2,h3,h4,h5⟩
  rw[upd_ne (ne_of ec e (fun z=>nomatch z))]
  exact ec
end
section
variable {X:Cx} {pins:List (Addr × Obj)} {σ : St} {H:Hp} {s:Shared} {a:Addr} {kvs:List (Key × V)} {k:Key} {u:Value} {A:Around} {E:Value->Shared->Prop}
theorem d_pop {v:V} {more:List Value} {Q:Value->Shared->Prop} (I:Inv X pins σ H s) (e:H a=some (.dK kvs)) (ry:RelV (kV k) u) (l:valV kvs k=some v) (hm:more=[]\/∃ x,more=[x])
  (h:∀ w' s',Inv X pins σ (upd H a (.dK (dropK kvs k))) s'->RelV v w'->Q w' s'):wpAny (model X.prog X.w) A (call (.builtin "dict.pop") (.ref a::u::more)) Q E s:=by
 obtain⟨z,hd,vs,rel,dd⟩:=dk_of I.hok e
 obtain⟨w',hw,rw'⟩:=RelO.some_of (v:=v) (o:=valueAt vs k) (by rw[<- l]; exact rel.val k)
 have hp:(keyPart u).isSome=true:=by
  cases k with
  | inl i=>obtain⟨t,q⟩:=(show ∃ t,u=Value.int i t from ry); subst q; rfl
  | inr x=>obtain⟨t,q⟩:=(show ∃ t,u=Value.str x t from ry); subst q; rfl
 have ha:argsOk "dict.pop" ⟨.ref a::u::more,[]⟩:=by
  rcases hm with q | ⟨x,q⟩
  ·subst q; exact PySem.F.args_dict_pop_2 _ _
  ·subst q; exact PySem.F.args_dict_pop_3 _ _ _
 refine call_meetsIn PySem.F.slot_dict_pop dd.typeIs PySem.F.entry_dict_pop ha (meets_dict_pop_there (mixKind X.prog X.w) a (kV_is ry) more hm hp)
  ⟨vs,w',dd,by rw[<- rel.length]; exact z,hw,fun h' dd' hs=>h w' _ ?_ rw'⟩
 have he:∃ q,h'.get? a=some q:=let ⟨q,_,_,hq,_⟩:=dd'; ⟨q,hq⟩
 exact d_write I (by rw[e]; exact True.intro) hs he (dk_new (Nat.le_trans (dropK_le kvs k) z) hd (rel.drop k) dd')
end
def NoSl (i:Expr):Prop:=∀ ov iv,subscripted i false ov iv=operate [ov,iv] (getItem ov iv)
theorem subD_of {prog:Program} {w:World} {A:Around} {E:Value->Shared->Prop} {s:Shared} {env:Env} {value slice:Expr} {pos:Pos} {T id:String} {Q:Value->Shared->Prop}
  (hl:typeLookup (.type T) "__getitem__" = pure (some (.builtin id))) (hs:NoSl slice)
  (h:wpAny (model prog w) A (eval value env) (fun o s₁=>wpAny (model prog w) A (eval slice env) (fun i s₂=>s₂.TypeIs o T/\wpAny (model prog w) A (getItem o i) Q E s₂) E s₁) E s) :
  wpAny (model prog w) A (eval (.Subscript value slice pos) env) Q E s:=by
 refine Subscript_ (wpAny_mono h (fun o s₁ h₁=>wpAny_mono h₁ (fun i s₂ h₂=>?_) fun _ _ x=>x) fun _ _ x=>x)
 obtain⟨hT,h₂⟩:=h₂
 unfold subscriptTail
 refine wpAny_bind ?_
 rw[getitemInPython_of_ne hT.not_modules]
 refine wpAny_bind (wpAny_specialOf hT hl ?_)
 have fin:wpAny (model prog w) A (subscripted slice false o i) (fun r s₃=>wpAny (model prog w) A (letTemporaryGo value o r >>= fun _=>pure r) Q E s₃) E s₂:=by
  rw[hs o i]
  exact wpAny_operating (wpAny_mono h₂ (fun r s₃ h₃=>wpAny_bind (wpAny_letTemporaryGo (wpAny_pure h₃))) fun _ _ x=>x)
 first
  | exact wpAny_pure (wpAny_bind fin)
  | exact wpAny_bind (wpAny_pure (wpAny_bind fin))
  | exact wpAny_bind fin
theorem dict_typeIs {X:Cx} {pins:List (Addr × Obj)} {σ : St} {H:Hp} {s:Shared} {a:Addr} {y:V} {o:Option V} (I:Inv X pins σ H s) (g:DGet H a y o):s.TypeIs (.ref a) "dict":=by
 rcases g with ⟨kvs,k,e,_,_⟩ | ⟨kvs,k,b,e,_,_,_⟩
 ·obtain⟨_,_,vs,_,dd⟩:=dk_rd I.hok e
  exact dd.typeIs
 ·obtain⟨_,_,xs,_,dd⟩:=dt_rd I.hok e
  exact dd.typeIs
def tDGet (td ty:TE):TE:=fun σ H Q=>td σ H fun x H1=>ty σ H1 fun y H2=>∃ a v,x = .ref a/\DGet H2 a y (some v)/\Q v H2
def tDIn (ty td:TE):TE:=fun σ H Q=>ty σ H fun y H1=>td σ H1 fun x H2=>∃ a o,x = .ref a/\DGet H2 a y o/\Q (.bl o.isSome) H2
def tDNotIn (ty td:TE):TE:=fun σ H Q=>ty σ H fun y H1=>td σ H1 fun x H2=>∃ a o,x = .ref a/\DGet H2 a y o/\Q (.bl (!o.isSome)) H2
def sDPut (td ty tv:TE):TS:=fun D σ H=>tv σ H fun v H1=>td σ H1 fun x H2=>ty σ H2 fun y H3=>∃ a H4,x = .ref a/\DPut H3 a y v H4/\D.nx σ H4
section
variable {X:Cx} {o i e value:Expr} {pos pos' tpos:Pos} {td ty tv:TE}
theorem pe_dget (hu:X.A.units+1<cLine) (ho:PE X o td) (hi:PE X i ty) (hs:NoSl i):PE X (.Subscript o i pos) (tDGet td ty):=by
 intro pins s σ H Q I h
 refine subD_of PySem.F.slot_dict_getitem.lookup hs (thn (ho pins s σ H _ I h) fun u s1 ⟨x,H1,I1,rx,q1⟩=>thn (hi pins s1 σ H1 _ I1 q1) fun iv s2 ⟨y,H2,I2,ry,a,v,ex,g,q2⟩=>?_)
 subst ex
 obtain rfl:u=Value.ref a:=rx
 exact⟨dict_typeIs I2 g,d_getItem hu I2 g ry fun w' s3 I3 rw'=>⟨v,H2,I3,rw',q2⟩⟩
theorem pc_din (hu:X.A.units+1<cLine) (hi:PE X i ty) (ho:PE X o td):PC X .In i o (tDIn ty td):=by
 intro pins s σ H Q I h
 refine thn (hi pins s σ H _ I h) fun iv s1 ⟨y,H1,I1,ry,q1⟩=>thn (ho pins s1 σ H1 _ I1 q1) fun u s2 ⟨x,H2,I2,rx,a,ov,ex,g,q2⟩=>?_
 subst ex
 obtain rfl:u=Value.ref a:=rx
 exact d_in hu I2 g ry fun s3 I3=>⟨.bl ov.isSome,H2,I3,rfl,q2⟩
theorem pc_dnotin (hu:X.A.units+1<cLine) (hi:PE X i ty) (ho:PE X o td):PC X .NotIn i o (tDNotIn ty td):=by
 intro pins s σ H Q I h
 refine thn (hi pins s σ H _ I h) fun iv s1 ⟨y,H1,I1,ry,q1⟩=>thn (ho pins s1 σ H1 _ I1 q1) fun u s2 ⟨x,H2,I2,rx,a,ov,ex,g,q2⟩=>?_
 subst ex
 obtain rfl:u=Value.ref a:=rx
 exact d_notIn hu I2 g ry fun s3 I3=>⟨.bl (!ov.isSome),H2,I3,rfl,q2⟩
theorem ps_dput (hu:X.A.units+1<cLine) (ho:PE X o td) (hi:PE X i ty) (hv:PE X value tv) (hs:swapsWith value (some (.Subscript o i pos')) pos.line X.env=pure false) :
  PS X (.Assign [.Subscript o i pos'] value pos) (sDPut td ty tv):=by
 intro pins s σ H D I h
 refine wpAny_Assign_Subscript (thn (hv pins s σ H _ I h) fun r s1 ⟨v,H1,I1,rv,q1⟩=>thn (ho pins s1 σ H1 _ I1 q1) fun u s2 ⟨x,H2,I2,rx,q2⟩=>thn (hi pins s2 σ H2 _ I2 q2) fun iv s3 ⟨y,H3,I3,ry,a,H4,ex,g,q3⟩=>?_) hs
 subst ex
 obtain rfl:u=Value.ref a:=rx
 exact d_setItem hu I3 g ry rv fun s4 I4=>⟨σ,H4,I4,q3⟩
end
theorem dk_empty {P:Program} {w:World} {H:Hp} (h:Heap) (hb:sysModules<h.objs.size):ObjOk P w H (h.push { cls:=.type "dict",data:=.dict #[] }) h.objs.size (.dK []):=
 ⟨Nat.zero_le _,beq_eq_false_iff_ne.mpr (Ne.symm (Nat.ne_of_lt hb)),[],.nil,Heap.DictOf.new h⟩
def tDNewK:TE:=fun _ H Q=>∀ p,H p=none->Q (.ref p) (upd H p (.dK []))
section
variable {X:Cx} {pos:Pos}
theorem pe_dnewK:PE X (.Dict [] [] pos) tDNewK:=fun pins s σ H Q I h=>
 wpAny_Dict_empty ⟨.ref s.heap.objs.size,_,I.laid (a:=s.heap.objs.size) (o:=.dK []) (t':=s.toks) (fun _ _ q=>Heap.get?_push_of_some _ q) (Nat.le_refl _) (dk_empty s.heap I.big),rfl,h _ (I.hok.fresh (Nat.le_refl _))⟩
end
section
variable {X:Cx} {pins:List (Addr × Obj)} {σ : St} {H:Hp} {s:Shared} {a:Addr} {y d:V} {u r:Value} {o:Option V} {A:Around} {E:Value->Shared->Prop}
end
section
variable {X:Cx} {o e f:Expr} {apos cpos:Pos} {td ty tx:TE}
end
section
variable {X:Cx} {pins:List (Addr × Obj)} {σ : St} {H:Hp} {s:Shared} {a:Addr} {kvs:List (Key × V)} {A:Around} {E:Value->Shared->Prop}
end
section
variable {X:Cx} {pins:List (Addr × Obj)} {σ : St} {H:Hp} {s:Shared} {a:Addr} {y:V} {u:Value} {A:Around} {E:Value->Shared->Prop}
end
end L2
namespace Att
open PySem PySem.W PySem.Calls PyProof.Rows
theorem ints_of_wellAll {P:Params} {h:Heap}:∀ (ns:List Int) (vs:List Value),WellAll P h vs (ns.map WData.int)->IntsAre vs ns:=by
 intro ns
 induction ns with
 | nil=>
  intro vs w
  rw[List.map_nil]at w
  cases w
  exact .nil
 | cons n ns ih=>
  intro vs w
  rw[List.map_cons]at w
  cases w with
  | cons a b=>
   cases a
   exact .cons _ _ (ih _ b)
theorem script_of {l:OpenLaw} {n:Nat} (hn:l.most=some n) {P:Params} {h:Heap} {args:List WData} {vals:List Value}
  (hpre:l.row.toRowW.claim.pre args=true) (hwl:WellAll P h vals args) :
  ∃ a vs ns,vals=[Value.ref a]/\args=[WData.list (ns.map WData.int)]/\h.get? a=some { cls:=.type "list",data:=.seq vs.toArray }/\IntsAre vs ns/\ns.length<=n:=by
 have hsh:WShape.hasAll [] args [.list .int]=true:=(pre_splitW hpre).1
 have hc:l.pre.holds [] { args:=args }=true:=(pre_splitW hpre).2
 obtain⟨d,r,rfl,h1,h2⟩:=hasAllW_cons hsh
 obtain rfl:=hasAllW_nil h2
 obtain⟨xs,rfl,h3⟩:=hasW_list h1
 obtain⟨ns,rfl⟩:=items_int h3
 have hlen:ns.length<=n:=by
  unfold OpenLaw.pre at hc
  have h4:(WTm.not (.lt (.lit (.int (n:Int))) (.len (.arg 0)))).holds [] { args:=[.list (ns.map .int)] }=true:=by
   have h4:=(holds_andW hc).1
   rw[hn]at h4
   exact h4
  have h5:=condW_of h4 (w_not (w_lt w_lit (w_len_list (w_arg rfl))))
  rw[List.length_map]at h5
  refine Nat.le_of_not_lt fun q=>?_
  have q':(n:Int)<((ns.length:Nat):Int):=by omega
  first
   | (rw[decide_eq_true q']at h5; exact absurd h5 (by decide))
   | (simp at h5; omega)
 cases hwl with
 | cons w1 w2=>
  cases w2
  cases w1 with
  | list ho hall=>exact⟨_,_,ns,rfl,rfl,ho,ints_of_wellAll ns _ hall,hlen⟩
theorem post_true (l:OpenLaw) (args:List WData):l.row.toRowW.claim.post args (.bool true) args=true:=
 postW_of (r:=l.row.toRowW) (X:=(true == true))
  (show WShape.has [] (.bool true) .bool=true by first | rfl | decide | simp [WShape.has,WShape.arms,WShape.armsAll])
  (show (WTm.eq .res (.lit (.bool true))).value [] { args:=args,res:=some (.bool true),after:=args }=some (.bool (true == true)) from w_eq_bool (w_res rfl) w_lit) rfl
theorem attach_call {l:OpenLaw} {n:Nat} {q:Program} {loose:List Str} {XP:(Str->Option Value)->Heap->Prop} {YP:World->Heap->Prop} {d:DefRec}
  (hn:l.most=some n) (hdf:d.params.defaults=[])
  (call:∀ (w:World) (s₀ s₁ : Shared) (mg mb:Str->Option Value) (fa:Addr) (o:Obj) (pm cd doc:Value) (a:Addr) (vs:List Value) (ns:List Int),
   Ground q loose [] XP w s₀ mg mb s₁.heap->YP w s₁.heap->
   s₁.heap.get? fa=some o->o.data = .func (docDef d.name d.params d.body d.scope pm cd doc)->s₁.heap.CodeRec cd d.name->mg d.name=some (.ref fa)->
   s₁.heap.get? a=some { cls:=.type "list",data:=.seq vs.toArray }->IntsAre vs ns->ns.length<=n->s₁.gens = #[]->
   codeAny (model l.prog w) callerA (.call (.ref fa) ⟨[.ref a],[]⟩) (fun r s'=>r = .ok (.ret (.bool true))/\OldK s₁.heap s'.heap/\s'.os=s₁.os/\AllBare s'.gens) s₁) :
  WalkO q loose XP YP l.row.toRowW d [] (fun f vs=>PySem.call f vs):=by
 intro w s₀ s₁ mg mb G Y fa o pm cd doc dV kV ho hd hcd hD hmg hg args vals as hpre hlay hrd hwl hlo
 obtain rfl:dV = .none:=Dflts.none hD hdf
 obtain rfl:kV = .none:=Dflts.noKw hD
 obtain⟨a,vs,ns,rfl,rfl,hobj,hints,hlen⟩:=script_of hn hpre hwl
 refine enter_call (codeAny_mono (call w s₀ s₁ mg mb fa o pm cd doc a vs ns G Y ho (fd_plain hd) hcd hmg hobj hints hlen hg) fun r s' hq=>?_)
 obtain⟨rfl,h2,h3,h4⟩:=hq
 exact⟨.inl ⟨.bool true,.bool true,[],rfl,fun _=>rfl,.bool true,post_true l _,fun _=>⟨List.Pairwise.nil,fun _ hm=>(nomatch hm)⟩⟩,h2,h3,h4⟩
section
variable {prog:Program} {w:World} {A:Around} {E:Value->Shared->Prop} {s:Shared} {K:Frag}
end
end Att
namespace L2
open PySem PySem.Spec PyProof.Rows
theorem vals_ints:∀ {vs:List Value} {ns:List Int},IntsAre vs ns->Vals (ns.map V.int) vs
 | _,_,.nil=>.nil
 | _,_,.cons n t h=>.cons ⟨t,rfl⟩ (vals_ints h)
def Only (H:Hp):Prop:=∀ b,H b=none\/∃ o xs,H b=some (.frz o (.lst xs))
theorem law_call {P:Program} {w:World} {K:PySem.W.Frag} {mg mb:Str->Option Value} {CX:CXT} {k:Nat} {fa a:Addr} {fd:FuncData} {x:Str} {sp:Sp} {s₁ : Shared} {vs:List Value} {ns:List Int}
  (KX:K.In s₁.heap) (hns:s₁.heap.Ns mainGlobals mg) (hb:s₁.heap.Ns builtinsNs mb) (hbb:∀ x:Str,x ≠ "__name__"->mb x=bootBuiltins x) (hlim:s₁.heap.NoLimit) (hg:s₁.gens = #[])
  (ha:s₁.heap.get? a=some { cls:=.type "list",data:=.seq vs.toArray }) (hi:IntsAre vs ns) (hl:ns.length<=sizeLine) (hr:Room k callerA)
  (F:∀ base:Heap,K.In base->base.Ns mainGlobals mg->FnOk P w K mg base CX k fa fd [x] sp) (hbind:∀ (s:Shared) (u:Value),BindsTo s fd ⟨[u],[]⟩ [(x,u)])
  (hsp:∀ H:Hp,Only H->SqL K H a (ns.map V.int)->sp [.ref a] H (fun v _=>v = .bl true) fun _ _ _=>False)
  (hCX:∀ H e s',CX [] H s₁ (fun _ _ _=>False) e s'->False) :
  codeAny (model P w) callerA (.call (.ref fa) ⟨[.ref a],[]⟩) (fun r s'=>r = .ok (.ret (.bool true))/\OldK s₁.heap s'.heap/\s'.os=s₁.os/\AllBare s'.gens) s₁:=by
 have rv:=vals_ints hi
 have lenV:=hi.length
 -- from an abstract heap in which nothing but the script may be tracked
 have core:∀ H:Hp,Only H->SqL K H a (ns.map V.int)->HOk P w H s₁.heap->(∀ b,H b≠none->b=a)->(H a≠none->K.lookup a=none)->
   codeAny (model P w) callerA (.call (.ref fa) ⟨[.ref a],[]⟩) (fun r s'=>r = .ok (.ret (.bool true))/\OldK s₁.heap s'.heap/\s'.os=s₁.os/\AllBare s'.gens) s₁:=by
  intro H hO hS hok hA hK
  have base_of:∀ {b:Addr} {o:Obj},s₁.heap.get? b=some o->H b=none->(hidT s₁.heap H).get? b=some o:=fun e n=>hidT_get e n
  have noA:∀ {b:Addr} {o:Obj} {es:Array DictEntry} {ep:Nat},s₁.heap.get? b=some o->o.data = .dict es ep->H b=none:=fun {b o es ep} e d=>by
   cases q:H b with
   | none=>rfl
   | some u=>
    have e':b=a:=hA b (by rw[q]; simp)
    subst e'
    rw[ha]at e; cases e
    have d':Data.seq vs.toArray _=Data.dict es ep:=d
    cases d'
  have nsK:∀ {b:Addr} {m:Str->Option Value},s₁.heap.Ns b m->(hidT s₁.heap H).Ns b m:=fun {b m} ⟨o,es,ep,e,d,r⟩=>⟨o,es,ep,base_of e (noA e d),d,r⟩
  have hKb:K.In (hidT s₁.heap H):=fun b o e=>base_of (KX b o e) (by
   cases q:H b with
   | none=>rfl
   | some u=>
    have e':b=a:=hA b (by rw[q]; simp)
    subst e'
    rw[hK (by rw[q]; simp)]at e; cases e)
  have hM:Mod K mg (hidT s₁.heap H):=⟨hKb,nsK hns,⟨mb,nsK hb,hbb⟩,let ⟨mc,h1,h2⟩:=hlim; ⟨mc,nsK h1,h2⟩⟩
  have e0:Env0 P w K mg (hidT s₁.heap H) callerA [] s₁ H:=⟨rfl,hM,fun b o e=>of_hidT e,Nat.le_of_eq (hidT_size _ _),trivial,fun b hb=>absurd (show b∈([]:List Addr) from hb) (by simp),hok,.of_eq hg⟩
  refine codeAny_mono ((F _ hKb (nsK hns)).run callerA [] s₁ H ⟨[.ref a],[]⟩ [.ref a] [.ref a] _ _ hr e0 (hbind s₁ (.ref a)) (.cons rfl .nil) (hsp H hO hS)) fun r s' h=>?_
  cases r with
  | error e=>exact(hCX H e s' h).elim
  | ok fl=>
   cases fl with
   | next=>exact False.elim h
   | brk=>exact False.elim h
   | cont=>exact False.elim h
   | ret u=>
    obtain⟨v,H',os,bare,un,hok',r',q⟩:=h
    have q':v = .bl true:=q
    subst q'
    obtain rfl:u=Value.bool true:=r'
    refine⟨rfl,OldK.of_keep fun b o e=>?_,os,bare⟩
    cases q:H b with
    | none=>exact un.keep b o e q (by intro z; exact absurd (show b∈([]:List Addr) from z) (by simp)) (by simp)
    | some u=>
     rcases hO b with z | ⟨ob,xs,z⟩
     ·rw[q]at z; cases z
     ·have z2:=un.frzs b ob _ z
      obtain⟨e1,_⟩:=hok b _ z
      obtain⟨e2,_⟩:=hok' b _ z2
      rw[e]at e1; cases e1
      exact e2
 cases hk:K.lookup a with
 | some o=>
  -- the script is one of the module's own objects
  have e:=KX a o hk
  rw[ha]at e
  cases e
  refine core (fun _=>none) (fun _=>.inl rfl) (.inr ⟨_,vs.toArray,_,hk,rfl,rfl,rfl,by rw[List.size_toArray,lenV]; exact hl,by simpa using rv⟩) (fun b u z=>by have z':(none:Option HO)=some u:=z; cases z') (fun b z=>absurd rfl z) fun z=>absurd rfl z
 | none=>
  refine core (fun b=>if b=a then some (.frz { cls:=.type "list",data:=.seq vs.toArray } (.lst (ns.map V.int))) else none) (fun b=>?_) (.inl (.inr ⟨{ cls:=.type "list",data:=.seq vs.toArray },if_pos rfl⟩)) (fun b u z=>?_) (fun b z=>?_) fun _=>hk
  ·by_cases hb:b=a
   ·exact .inr ⟨_,_,if_pos hb⟩
   ·exact .inl (if_neg hb)
  ·by_cases hb:b=a
   ·have z':=(if_pos hb).symm.trans z
    cases z'
    subst hb
    exact⟨ha,by rw[List.length_map]; exact hl,vs,_,rv,ha⟩
   ·have z':=(if_neg hb).symm.trans z
    cases z'
  ·by_cases hb:b=a
   ·exact hb
   ·exact absurd (if_neg hb) z
end L2
namespace L2
open PySem PySem.Spec PyProof.Rows
theorem walk_of {l:PySem.W.OpenLaw} {n k:Nat} {q:Program} {loose:List Str} {XP:(Str->Option Value)->Heap->Prop} {YP:World->Heap->Prop} {d:DefRec} {K:Params->PySem.W.Frag} {CX:World->CXT} {sp:World->Sp} {x:Str}
  (hn:l.most=some n) (hn2:n<=sizeLine) (hdf:d.params.defaults=[]) (hr:Room k callerA)
  (hY:∀ (w:World) (h:Heap),YP w h->(K w.params).In h)
  (F:∀ (w:World) (mg:Str->Option Value) (fa:Addr) (h:Heap),(K w.params).In h->h.Ns mainGlobals mg->mg d.name=some (.ref fa)->
   ∃ fd:FuncData,(∀ (s:Shared) (u:Value),BindsTo s fd ⟨[u],[]⟩ [(x,u)])/\
    ∀ base:Heap,(K w.params).In base->base.Ns mainGlobals mg->FnOk l.prog w (K w.params) mg base (CX w) k fa fd [x] (sp w))
  (hsp:∀ (w:World) (H:Hp) (a:Addr) (ns:List Int),ns.length<=n->Only H->SqL (K w.params) H a (ns.map V.int)->sp w [.ref a] H (fun v _=>v = .bl true) fun _ _ _=>False)
  (hCX:∀ (w:World) (H:Hp) (s:Shared) (e:Value) (s':Shared),CX w [] H s (fun _ _ _=>False) e s'->False) :
  PySem.W.WalkO q loose XP YP l.row.toRowW d [] (fun f vs=>PySem.call f vs):=by
 refine Att.attach_call hn hdf fun w s₀ s₁ mg mb fa o pm cd doc a vs ns G Y ho hd hcd hmg hobj hints hlen hg=>?_
 have KX:=hY w _ Y
 obtain⟨fd,hb,hF⟩:=F w mg fa _ KX G.T.g hmg
 exact law_call KX G.T.g G.T.b G.T.builtins G.T.nolimit hg hobj hints (Nat.le_trans hlen hn2) hr hF hb (fun H hO hS=>hsp w H a ns hlen hO hS) fun H e s'=>hCX w H s₁ e s'
end L2
namespace L2
open PySem PySem.Spec PyProof.Rows
def inClass (s:Stmt) (j:Nat):Stmt:=match s with
 | .ClassDef _ _ _ body _ _ _ _ _ _ _=>body.getD j (.Pass ⟨0,0,0,0⟩)
 | _=>.Pass ⟨0,0,0,0⟩
def defArgs (s:Stmt):Arguments:=match s with
 | .FunctionDef _ a _ _ _ _ _ _ _ _=>a
 | _=>{ posonlyargs:=[],args:=[],vararg:=none,kwonlyargs:=[],kw_defaults:=[],kwarg:=none,defaults:=[] }
def defBody (s:Stmt):List Stmt:=match s with
 | .FunctionDef _ _ b _ _ _ _ _ _ _=>b
 | _=>[]
def defScope (s:Stmt):Scope:=match s with
 | .FunctionDef _ _ _ _ _ _ sc _ _ _=>sc
 | _=>{ kind:=.function,names:=[],isGenerator:=false,isCoroutine:=false }
abbrev E0:XK:=fun _ _ _=>False
structure Fun (K:PySem.W.Frag) (x qual:Str) (st:Stmt) (f:Addr) (fd:FuncData):Prop where
 ex:∃ (oc:Value) (od:Option Addr) (kV doc pm:Value) (an:Option Addr) (cdv ct:Value) (osl:Array (Option Value)),
  fd=PySem.W.fnOf x qual (defArgs st) (defBody st) (defScope st) .none kV doc pm an cdv ct/\K.lookup f=some ⟨oc,od,.func fd,osl⟩/\PySem.W.codeIn K cdv qual=true
 kp:PySem.W.keepIn K (.ref f)=true
section
variable {P:Program} {w:World} {K:PySem.W.Frag} {mg:Str->Option Value} {base:Heap}
theorem Fun.binds {x qual:Str} {st:Stmt} {f:Addr} {fd:FuncData} {ps:List Str} (F:Fun K x qual st f fd)
  (h:∀ (kV doc pm:Value) (an:Option Addr) (cdv ct:Value) (us:List Value),us.length=ps.length->bindArgs (PySem.W.fnOf x qual (defArgs st) (defBody st) (defScope st) .none kV doc pm an cdv ct) ⟨us,[]⟩=pure (ps.zip us)):Binds K fd ps []:=by
 obtain⟨oc,od,kV,doc,pm,an,cdv,ct,osl,rfl,lk,hcd⟩:=F.ex
 exact .all (h kV doc pm an cdv ct)
theorem fun_mk {x qual:Str} {st:Stmt} {f:Addr} {oc:Value} {od an:Option Addr} {osl:Array (Option Value)} {kV doc pm cdv ct:Value} (l:K.lookup f=some ⟨oc,od,.func (PySem.W.fnOf x qual (defArgs st) (defBody st) (defScope st) .none kV doc pm an cdv ct),osl⟩)
  (c:PySem.W.codeIn K cdv qual=true) (k:PySem.W.keepIn K (.ref f)=true):Fun K x qual st f (PySem.W.fnOf x qual (defArgs st) (defBody st) (defScope st) .none kV doc pm an cdv ct):=⟨⟨oc,od,kV,doc,pm,an,cdv,ct,osl,rfl,l,c⟩,k⟩
end
section
variable {X:Cx}
theorem pv (i:Nat) {x:Str} {pos:Pos} (hN:X.N[i]? = some x:=by rfl) (hv:Vis X.env.scope x:=by first | exact Or.inl rfl | exact Or.inr (Or.inl rfl) | exact Or.inr (Or.inr rfl)) (hd:(x == ("__debug__" : Str))=false:=by decide)
  (hcd:(x == ("__classdict__" : Str))=false:=by decide):PE X (.Name x pos) (tVar i):=pe_var hN hv hd hcd
end
theorem iteF {A B:Prop} (h:B):if false=true then A else B:=by
 rw[if_neg Bool.false_ne_true]
 exact h
theorem iteT {A B:Prop} (h:A):if true=true then A else B:=by
 rw[if_pos rfl]
 exact h
def Same (H H':Hp):Prop:=∀ b o,H b=some o->H' b=some o
theorem Same.refl (H:Hp):Same H H:=fun _ _ h=>h
theorem Same.trans {H H1 H2:Hp} (a:Same H H1) (b:Same H1 H2):Same H H2:=fun c o h=>b c o (a c o h)
theorem Same.free {H H':Hp} (e:Same H H') {l:Addr} (h:H' l=Option.none):H l=Option.none:=by
 cases q:H l with
 | none=>rfl
 | some o=>
  rw[e l o q]at h
  cases h
theorem Same.seq {K:PySem.W.Frag} {H H':Hp} {a:Addr} {xs:List V} (e:Same H H') (h:SqL K H a xs):SqL K H' a xs:=by
 rcases h with (h | ⟨o,h⟩) | h
 ·exact .inl (.inl (e _ _ h))
 ·exact .inl (.inr ⟨o,e _ _ h⟩)
 ·exact .inr h
section
variable {κ : Type} [DecidableEq κ]
theorem dropK_pos {p:κ × V} {r:List (κ × V)} {k:κ} (e:p.1=k):dropK (p::r) k=dropK r k:=by
 unfold dropK
 rw[List.filter_cons,if_neg (by simp [e])]
theorem dropK_neg {p:κ × V} {r:List (κ × V)} {k:κ} (e:¬ p.1=k):dropK (p::r) k=p::dropK r k:=by
 unfold dropK
 rw[List.filter_cons,if_pos (by simp [e])]
end
end L2
end
section
namespace L2
open PySem PySem.Spec PyProof.Rows
def FlyB (B:Heap) (l:List Env) (e:Addr) (cls a0 fl:Value) (h:Heap):Prop:=B.StaysIn h/\B.get? e=none/\h.FunFrames B l/\h.TracedAtW B e cls a0 fl
structure Fly (P:Program) (w:World) (l:List Env) (H H':Hp) (s s':Shared) (e:Addr) (cls fl:Value):Prop where
 os:s'.os=s.os
 bare:AllBare s'.gens
 fr:∀ b o,s.heap.get? b=some o->H b=none->H' b=none
 tups:∀ b xs,H b=some (.tup xs)->H' b=some (.tup xs)
 frzs:∀ b o u,H b=some (.frz o u)->H' b=some (.frz o u)
 tbls:∀ b ps,H b=some (.tbl ps)->∃ more,H' b=some (.tbl (ps++more))
 sl:∀ b o,s.heap.get? b=some o->b∈frs l->∃ sl,s'.heap.get? b=some { o with slots:=sl }
 fly:∃ B a0,FlyB B l e cls a0 fl s'.heap/\HOk P w H' B/\(∀ b o,s.heap.get? b=some o->H b=none->b ∉ frs l->B.get? b=some o)/\∀ b o,s.heap.get? b=some o->b ∉ frs l->∃ o',B.get? b=some o'
section
variable {P:Program} {w:World} {l:List Env} {H H':Hp} {s s':Shared} {e:Addr} {cls fl:Value}
theorem slot_on {h h':Heap} {B:Heap} {l:List Env} (fl:h.FunFrames B l) (u:h.UpToSlots h') {b:Addr} {o:Obj} {sl:Array (Option Value)} (hb:b∈frs l) (e:h.get? b=some { o with slots:=sl }):∃ sl',h'.get? b=some { o with slots:=sl' }:=by
 obtain⟨_,o',ho,hd⟩:=fl.mem hb
 rw[e]at ho; cases ho
 obtain⟨sl',z⟩:=u b _ e hd
 exact⟨sl',z⟩
theorem Fly.go (F:Fly P w l H H' s s' e cls fl):∃ B a0,FlyB B l e cls a0 fl s'.heap/\∀ h' fl',FlyB B l e cls a0 fl' h'->s'.heap.UpToSlots h'->Fly P w l H H' s { s' with heap:=h' } e cls fl':=by
 obtain⟨B,a0,fl,hk,kp,th⟩:=F.fly
 refine⟨B,a0,fl,fun h' fl' f' up=>⟨F.os,F.bare,F.fr,F.tups,F.frzs,F.tbls,fun b o q hb=>?_,B,a0,f',hk,kp,th⟩⟩
 obtain⟨sl,z⟩:=F.sl b o q hb
 exact slot_on (o:=o) fl.2.2.1 up hb z
theorem Fly.drop {env:Env} {outer:List Env} {L:Addr} {H₀ : Hp} {s₀ : Shared} (F:Fly P w (env::outer) H H' s s' e cls fl) (hf:env.frame=some L)
  (hL:s₀.heap.objs.size<=L) (ho:s.os=s₀.os) (U:Un (frs outer) [] H₀ H s₀.heap s.heap) (hn:∀ b∈frs outer,H₀ b=none):Fly P w outer H₀ H' s₀ s' e cls fl:=by
 obtain⟨B,a0,⟨f1,f2,⟨_,_,f3⟩,f4⟩,hk,kp,th⟩:=F.fly
 have sub:∀ b,b∈frs (env::outer)->b=L\/b∈frs outer:=fun b hb=>by
  unfold frs at hb
  rw[List.filterMap_cons,hf]at hb
  exact List.mem_cons.mp hb
 have sup:∀ b,b∈frs outer->b∈frs (env::outer):=fun b hb=>by
  unfold frs
  rw[List.filterMap_cons,hf]
  exact List.mem_cons_of_mem _ hb
 have old:∀ b o,s₀.heap.get? b=some o->b ∉ frs outer->b ∉ frs (env::outer):=fun b o q hb z=>by
  rcases sub b z with rfl | z
  ·exact absurd (Nat.lt_of_lt_of_le (Heap.lt_size q) hL) (Nat.lt_irrefl _)
  ·exact hb z
 have nx:∀ b,b ∉ ([]:List Addr):=fun b=>by simp
 refine⟨F.os.trans ho,F.bare,fun b o q n=>?_,fun b xs q=>F.tups b xs (U.tups b xs q),fun b o u q=>F.frzs b o u (U.frzs b o u q),fun b ps q=>?_,fun b o q hb=>?_,B,a0,⟨f1,f2,f3,f4⟩,hk,fun b o q n hb=>?_,fun b o q hb=>?_⟩
 ·obtain⟨o',z⟩:=U.there b o q (nx b)
  exact F.fr b o' z (U.free b o q n (nx b))
 ·obtain⟨m1,z1⟩:=U.tbls b ps q
  obtain⟨m2,z2⟩:=F.tbls b _ z1
  exact⟨m1++m2,by rw[z2,Array.append_assoc]⟩
 ·obtain⟨sl,z⟩:=U.slot b o q (hn b hb) hb (nx b)
  obtain⟨sl',z'⟩:=F.sl b _ z (sup b hb)
  exact⟨sl',z'⟩
 ·exact kp b o (U.keep b o q n hb (nx b)) (U.free b o q n (nx b)) (old b o q hb)
 ·obtain⟨o',z⟩:=U.there b o q (nx b)
  exact th b o' z (old b o q hb)
theorem hok_hide {P:Program} {w:World} {H:Hp} {h:Heap} {l:List Addr} (x:HOk P w H h) (hl:∀ b∈l,H b=none):HOk P w H (PySem.W.hideAll h l):=fun a o e=>
 (x a o e).stay (fun b u hb q=>PySem.W.hideAll_get _ q fun hm=>by
  have n:=hl b hm
  rcases hb with rfl | hb
  ·rw[e]at n; cases n
  ·rw[hb]at n; cases n) (fun _ q=>q) fun _ _ q=>q
section
variable {M:Model} {A:Around} {E:Value->Shared->Prop} {Q:Unit->Shared->Prop} {env:Env} {outer:List Env} {L:Addr}
theorem fly_land (F:Fly P w l H H' s s' e cls fl) (hQ:∀ h',Fly P w l H H' s { s' with heap:=h' } e cls .none->Q () { s' with heap:=h' }):wpAny M A (setFlight (.ref e) none) Q E s':=by
 obtain⟨B,a0,⟨f1,f2,f3,f4⟩,go⟩:=F.go
 exact wpAny_setFlight_noneW f1 f3 f4 fun h' k1 k2 k3 k4=>hQ h' (go h' _ ⟨k1,f2,k2,k3⟩ fun b o hb hn=>⟨o.slots,k4 b o hb hn⟩)
theorem fly_take (F:Fly P w l H H' s s' e cls fl) (hQ:∀ h',Fly P w l H H' s { s' with heap:=h' } e cls (rawInt L)->Q () { s' with heap:=h' }):wpAny M A (setFlight (.ref e) (some L)) Q E s':=by
 obtain⟨B,a0,⟨hkb,hen,hl,oe,vs,T,oT,ts,he,hcls,hd,h1,hnT,hTe,hT,hdT,h3⟩,go⟩:=F.go
 have hsz3:3<ts.size:=(Array.getElem?_eq_some_iff.mp h3).1
 have other:∀ b,b≠T->(s'.heap.update T (Obj.mapFields (·.setIfInBounds 3 ((some L).elim Value.none fun f=>rawInt f)))).get? b=s'.heap.get? b:=
  fun b hb=>Heap.get?_update_other _ _ (Ne.symm hb)
 have noRecord:∀ b o,s'.heap.get? b=some o->(∀ vs,o.data ≠ .fields vs)->b≠T:=fun b o hb hnf q=>by
  rw[q,hT]at hb; injection hb with hb; subst hb; exact hnf ts hdT
 unfold setFlight
 refine wpAny_bind (wpAny_field he hd h1 ?_)
 rw[if_pos (show (Value.ref T != Value.none)=true from by simp)]
 refine wpAny_setField hT hdT hsz3 (hQ _ (go _ _ ⟨fun b o hbo=>(other b fun q=>by rw[q,hnT]at hbo; cases hbo).trans (hkb b o hbo),hen,
  hl.of_keeps fun b o hb hnf=>⟨o,(other b (noRecord b o hb hnf)).trans hb,rfl⟩,?_⟩ fun b o hb hnf=>⟨o.slots,(other b (noRecord b o hb hnf)).trans hb⟩))
 exact⟨oe,vs,T,_,_,(other e (Ne.symm hTe)).trans he,hcls,hd,h1,hnT,hTe,Heap.get?_update_self _ hT (Obj.isFreed_of_fields (Obj.data_mapFields hdT _)),Obj.data_mapFields hdT _,by simp [hsz3]⟩
theorem fly_note (hfr:A.frames=some (env::outer)) (hf:env.frame=some L) (F:Fly P w (env::outer) H H' s s' e cls .none)
  (hQ:∀ h',Fly P w (env::outer) H H' s { s' with heap:=h' } e cls (rawInt L)->Q () { s' with heap:=h' }):wpAny M A (noteFrame (.ref e) env) Q E s':=by
 obtain⟨B,a0,⟨f1,f2,f3,f4⟩,go⟩:=F.go
 exact wpAny_noteFrame_onW hfr f3 hf f4 f1 f2 fun h' ⟨k1,k2,k3,k4⟩=>hQ h' (go h' _ ⟨k1,f2,k2,k3⟩ k4)
theorem fly_again (hf:env.frame=some L) (F:Fly P w l H H' s s' e cls (rawInt L)) (hQ:Q () s'):wpAny M A (noteFrame (.ref e) env) Q E s':=by
 obtain⟨B,a0,⟨f1,f2,f3,f4⟩,go⟩:=F.go
 exact wpAny_noteFrame_againW hf f4 hQ
theorem fly_field1 (F:Fly P w l H H' s s' e cls fl) {R:Value->Shared->Prop} (hQ:∀ T:Addr,R (.ref T) s'):wpAny M A (field (.ref e) 1) R E s':=by
 obtain⟨B,a0,⟨hkb,hen,hl,oe,vs,T,oT,ts,he,hcls,hd,h1,_⟩,_⟩:=F.go
 exact wpAny_field he hd h1 (hQ T)
end
end
def CXE (P:Program) (w:World):CXT:=fun outer H s E e s'=>∃ (a:Addr) (cls:Value) (H':Hp),e = .ref a/\Fly P w outer H H' s s' a cls .none/\E cls none H'
def AtX (X:Cx) (pins:List (Addr × Obj)) (σ : St) (H':Hp) (s':Shared) (e:Addr) (cls:Value):Prop:=
 (∃ s args,Inv X pins σ H' s/\Heap.MadeExcOf s.heap s'.heap e cls args/\s' = { s with heap:=s'.heap })\/
 ∃ H s fl,Inv X pins σ H s/\Fly X.prog X.w X.stack H H' s s' e cls fl/\(fl = .none\/fl=rawInt X.env.locals)
structure Own (X:Cx):Prop where
 stk:X.stack=X.env::X.outer
 fra:X.env.frame=some X.env.locals
 ex:X.ex=[]
section
variable {X:Cx} {pins:List (Addr × Obj)} {σ : St} {H':Hp} {s':Shared} {e:Addr} {cls:Value}
theorem made_note {M:Model} {A:Around} {E:Value->Shared->Prop} {Q:Unit->Shared->Prop} (O:Own X) (hfr:A.frames=some X.stack) {s:Shared} {args:List Value} (I:Inv X pins σ H' s) (mk:Heap.MadeExcOf s.heap s'.heap e cls args) (es:s' = { s with heap:=s'.heap })
  (hQ:∀ h',Fly X.prog X.w X.stack H' H' s { s' with heap:=h' } e cls (rawInt X.env.locals)->Q () { s' with heap:=h' }):wpAny M A (noteFrame (.ref e) X.env) Q E s':=by
 have hst:=I.stack
 have hfree:=I.stkFree
 have hin:∀ env∈X.stack,∀ a,env.frame=some a->a∈frs X.stack:=fun env he a ha=>List.mem_filterMap.mpr ⟨env,he,ha⟩
 obtain⟨t,he,htn,ht⟩:=mk.there
 have FH:=PySem.W.funFrames_hide (as:=frs X.stack) hst hin
 have hen:(PySem.W.hideAll s.heap (frs X.stack)).get? e=none:=by
  cases q:(PySem.W.hideAll s.heap (frs X.stack)).get? e with
  | none=>rfl
  | some o=>have:=PySem.W.of_hideAll _ q; rw[mk.new]at this; cases this
 have os':s'.os=s.os:=by rw[es]
 have gs':s'.gens=s.gens:=by rw[es]
 unfold noteFrame
 simp only[O.fra]
 refine wpAny_bind (wpAny_field he rfl (x:=Value.none) rfl ?_)
 rw[if_neg (by decide)]
 have FH':s.heap.FunFrames (PySem.W.hideAll s.heap (frs X.stack)) (X.env::X.outer):=by
  have z:=O.stk
  rw[<- z]
  exact FH
 rw[O.stk]at hfr
 refine wpAny_entryW (base:=PySem.W.hideAll s.heap (frs X.stack)) (a0:=.ref t) hfr (FH'.of_keeps fun b o hb _=>⟨o,mk.keeps b o hb,rfl⟩) O.fra he (fun b o z=>mk.keeps b o (PySem.W.of_hideAll _ z)) hen rfl (by simp) rfl fun h2 hN=>?_
 obtain⟨k1,k2,k3,k4⟩:=hN
 refine hQ h2 ⟨os',by rw[gs']; exact I.bare,fun b o z n=>n,fun b xs q=>q,fun b o u q=>q,fun b ps q=>⟨#[],by rw[q]; simp⟩,fun b o z hb=>?_,_,_,⟨k1,hen,(by have z:=O.stk; rw[<- z]at k2; exact k2),k3⟩,hok_hide I.hok hfree,fun b o z n hb=>PySem.W.hideAll_get _ z hb,fun b o z hb=>⟨o,PySem.W.hideAll_get _ z hb⟩⟩
 obtain⟨_,o',ho,hd⟩:=hst.mem hb
 rw[z]at ho; cases ho
 exact k4 b _ (mk.keeps _ _ z) hd
theorem at_note {M:Model} {A:Around} {E:Value->Shared->Prop} {Q:Unit->Shared->Prop} (O:Own X) (hfr:A.frames=some X.stack) (F:AtX X pins σ H' s' e cls)
  (hQ:∀ H s h',Inv X pins σ H s->Fly X.prog X.w X.stack H H' s { s' with heap:=h' } e cls (rawInt X.env.locals)->Q () { s' with heap:=h' }):wpAny M A (noteFrame (.ref e) X.env) Q E s':=by
 rcases F with ⟨s,args,I,mk,es⟩ | ⟨H,s,fl,I,F,rfl | rfl⟩
 ·exact made_note O hfr I mk es fun h' F=>hQ _ _ h' I F
 ·rw[O.stk]at hfr F
  exact fly_note hfr O.fra F fun h' F'=>hQ H s h' I (by rw[O.stk]; exact F')
 ·refine fly_again O.fra F ?_
  have:=hQ H s s'.heap I F
  exact this
theorem at_leave {M:Model} {A:Around} {E:Value->Shared->Prop} {Q:Unit->Shared->Prop} (O:Own X) (hfr:A.frames=some X.stack) (F:AtX X pins σ H' s' e cls)
  (hQ:∀ h',Fly X.prog X.w X.outer X.H₀ H' X.s₀ { s' with heap:=h' } e cls .none->Q () { s' with heap:=h' }):wpAny M A (leaving X.env (.ref e)) Q E s':=by
 unfold leaving
 refine wpAny_bind (at_note O hfr F fun H s h' I F'=>?_)
 refine fly_land F' fun h2 F2=>hQ h2 ?_
 rw[O.stk]at F2
 have U:=I.base
 rw[O.ex]at U
 exact F2.drop O.fra I.ok.above I.os U I.ok.frf
end
abbrev XC:=Value->St->Hp->Prop
def XP (X:Cx) (R:XC) (e:Value) (s':Shared):Prop:=∃ (pins:List (Addr × Obj)) (a:Addr) (cls:Value) (σ : St) (H':Hp),e = .ref a/\AtX X pins σ H' s' a cls/\R cls σ H'
section
variable {X:Cx} {R:XC}
theorem AtX.frames {pins:List (Addr × Obj)} {σ : St} {H':Hp} {s':Shared} {e:Addr} {cls:Value} (F:AtX X pins σ H' s' e cls):X.A.frames=some X.stack:=by
 rcases F with ⟨s,args,I,_⟩ | ⟨H,s,fl,I,_⟩
 ·exact I.ok.frames
 ·exact I.ok.frames
theorem xp_own (O:Own X):PassesOwn (model X.prog X.w) X.A X.env (XP X R):=by
 rintro _ s' ⟨pins,a,cls,σ,H',rfl,F,q⟩
 refine at_note O F.frames F fun H s h' I F'=>?_
 unfold cameBackBy
 refine wpAny_bind (fly_field1 F' fun T=>?_)
 rw[if_neg (show ¬ ((Value.ref T == Value.none)=true) from by simp)]
 rw[O.fra]
 exact fly_take F' fun h2 F2=>⟨pins,a,cls,σ,H',rfl,.inr ⟨H,s,_,I,F2,.inr rfl⟩,q⟩
end
end L2
end
section
namespace L2
open PySem PySem.Spec PyProof.Rows
abbrev Cx.bod (X:Cx) (E:XK):Cx:=X.wish (XP X fun c _ H=>E c none H)
section
variable {X:Cx} {E E':XK}
theorem own_cx {P:Program} {w:World} {K:PySem.W.Frag} {mg:Str->Option Value} {base:Heap} {N:List Str} {qual:Str} {scope:Scope} {f:Addr} {cd:Value} {A:Around} {outer:List Env} {s:Shared} {H:Hp} {CX:CXT} :
  Own (cxOf CX P w K mg base N qual scope f cd A outer s H E):=⟨rfl,rfl,rfl⟩
theorem passB (hE:∀ c o H,E' c o H->E c none H):Passes (CXE X.prog X.w) (X.bod E) E':=by
 intro pins σ H1 s1 e s' I ⟨a,cls,H',he,F,q⟩
 exact⟨pins,a,cls,σ,H',he,.inr ⟨H1,s1,.none,I.unwish,F,.inl rfl⟩,hE _ _ _ q⟩
theorem passS:Passes (CXE X.prog X.w) (X.bod E) (fun c _ H=>E c none H):=passB fun _ _ _ q=>q
theorem passN {X:Cx} {P:Program} {w:World}:Passes (CXE P w) X E0:=fun _ _ _ _ _ _ _ ⟨_,_,_,_,_,q⟩=>False.elim q
def Raises (X:Cx) (E:Value->Hp->Prop):Prop:=∀ (pins:List (Addr × Obj)) (σ : St) (H:Hp) (s:Shared) (h':Heap) (e:Addr) (cls:Value) (args:List Value),Inv X pins σ H s->Heap.MadeExcOf s.heap h' e cls args->E cls H->X.xe (.ref e) { s with heap:=h' }
theorem raisesB:Raises (X.bod E) (fun c H=>E c none H):=fun pins σ H s h' e cls args I mk q=>⟨pins,e,cls,σ,H,rfl,.inl ⟨s,args,I.unwish,mk,rfl⟩,q⟩
theorem ownB (O:Own X):PassesOwn (model X.prog X.w) X.A X.env (X.bod E).xe:=xp_own O
end
section
variable {P:Program} {w:World} {K:PySem.W.Frag} {mg:Str->Option Value} {base:Heap}
theorem PSs.leave {X:Cx} {E:XK} {st:List Stmt} {t:TS} (O:Own X) (hx:X.xe=fun e s'=>wpAny (model X.prog X.w) X.A (leaving X.env e) (fun _ s''=>CXE X.prog X.w X.outer X.H₀ X.s₀ E e s'') (fun e' s''=>CXE X.prog X.w X.outer X.H₀ X.s₀ E e' s'') s')
  (h:PSs (X.bod E) st t):PSs X st t:=fun pins s σ H D I hw=>
 wpAny_mono (h pins s σ H D (I.wish _) hw) (fun _ _ q=>q.unwish) fun e s' ⟨pins,a,cls,σ,H',he,F,q⟩=>by
  subst he
  rw[hx]
  exact at_leave O F.frames F fun h' F'=>⟨a,cls,H',rfl,F',q⟩
theorem Fun.okX {x qual:Str} {st:Stmt} {f:Addr} {fd:FuncData} {N ps:List Str} {k:Nat} {sp:Sp} (F:Fun K x qual st f fd) (S:FnScope N ps (defScope st)) (len:∀ vs H Q E,sp vs H Q E->vs.length=ps.length)
  (hbody:∀ (cdv:Value) (A:Around) (outer:List Env) (s:Shared) (H:Hp) (vs:List V) (Q:VK) (E:XK),Room k (A.deeper (envOfC qual (defScope st) s.heap.objs.size f cdv))->sp vs H Q E->
   ∃ t,PSs ((cxOf (CXE P w) P w K mg base N qual (defScope st) f cdv A outer s H E).bod E) (defBody st) t/\t { nx:=fun _ H'=>Q .non H',rt:=Q } (start N vs) H):FnOk P w K mg base (CXE P w) (k+1) f fd ps sp:=by
 obtain⟨oc,od,kV,doc,pm,an,cdv,ct,osl,rfl,lk,hcd⟩:=F.ex
 refine fn_of lk hcd S len fun A outer s H vs Q E hr hsp=>?_
 obtain⟨t,h,q⟩:=hbody cdv A outer s H vs Q E hr hsp
 exact⟨t,PSs.leave own_cx rfl h,q⟩
end
def nsOk (K:PySem.W.Frag) (N:Addr):Bool:=match K.lookup N with
 | some ⟨_,_,.dict es _,_⟩=>es.toList.all (fun e=>match e.key with | .str _ _=>true | _=>false) && (es.toList.find? (·.key.isStr "__init__")).isNone
 | _=>false
theorem nsOk_ns {K:PySem.W.Frag} {h:Heap} {N:Addr} (X:K.In h) (e:nsOk K N=true):∃ m,h.Ns N m/\m "__init__" = none:=by
 unfold nsOk at e
 split at e
 ·rename_i c d es n sl q
  rw[Bool.and_eq_true]at e
  obtain⟨e1,e2⟩:=e
  refine⟨nsFind es,⟨_,es,n,X _ _ q,rfl,fun en hen=>?_,fun _=>rfl⟩,?_⟩
  ·have z:=List.all_eq_true.mp e1 en (by simpa using hen)
   split at z
   ·rename_i a b hk
    exact⟨a,b,hk⟩
   ·cases z
  ·unfold nsFind findBy
   rw[<- Array.find?_toList]
   cases q2:es.toList.find? (·.key.isStr "__init__") with
   | none=>rfl
   | some v=>rw[q2]at e2; cases e2
 ·cases e
abbrev valBm:List Value:=[.type "ValueError",.type "Exception",.type "BaseException",.type "object"]
def tailIn (K:PySem.W.Frag):List Value->Bool
 | []=>false
 | v::tl=>(v::tl == valBm) || (match v with
  | .ref a=>(match K.lookup a with | some ⟨_,_,.cls cd,_⟩=>nsOk K cd.ns | _=>false) && tailIn K tl
  | _=>false)
theorem tailIn_own {K:PySem.W.Frag} {h:Heap} (X:K.In h):∀ {l:List Value},tailIn K l=true->OwnTail h valBm l
 | [],e=>by
  unfold tailIn at e
  cases e
 | v::tl,e=>by
  unfold tailIn at e
  rw[Bool.or_eq_true]at e
  rcases e with e | e
  ·rw[beq_iff_eq.mp e]
   exact .base
  ·split at e
   ·rw[Bool.and_eq_true]at e
    obtain⟨e1,e2⟩:=e
    split at e1
    ·rename_i c d cd sl q
     obtain⟨m,hn,hi⟩:=nsOk_ns X e1
     exact .own (X _ _ q) hn hi (tailIn_own X e2)
    ·cases e1
   ·cases e
def excIn (K:PySem.W.Frag) (C:Addr):Bool:=match K.lookup C with
 | some ⟨.type "type",_,.cls cd,sl⟩=>(match cd.mro,sl.toList with
  | .ref C'::bm,[_,_,_,_,some (.builtin n),_]=>C' == C && !cd.hasDel && n == "ValueError.__new__" && nsOk K cd.ns && tailIn K bm
  | _,_=>false)
 | _=>false
theorem excIn_own {K:PySem.W.Frag} {h:Heap} {C:Addr} {x:Str} {mg:Str->Option Value} (X:K.In h) (hm:mg x=some (.ref C)) (q:excIn K C=true):OwnCls x C valBm "ValueError.__new__" mg h:=by
 unfold excIn at q
 split at q
 ·rename_i dd cd sl ho
  split at q
  ·rename_i C' bm k0 k1 k2 k3 n k5 hmr hs
   simp only[Bool.and_eq_true,beq_iff_eq,Bool.not_eq_true']at q
   obtain⟨⟨⟨⟨rfl,hdel⟩,rfl⟩,hn⟩,ht⟩:=q
   obtain⟨m,hns,hni⟩:=nsOk_ns X hn
   obtain⟨nm,bs,mro,ns,qn,hd,sn,sub,ab,col,del⟩:=cd
   dsimp only at hmr hdel hns
   subst hmr hdel
   have hsl:sl = #[k0,k1,k2,k3,some (.builtin "ValueError.__new__"),k5]:=by
    obtain⟨l⟩:=sl
    simp only at hs
    rw[hs]
   subst hsl
   exact⟨hm,bm,ns,nm,qn,bs,hd,sn,sub,ab,col,dd,k0,k1,k2,k3,k5,m,X _ _ ho,hns,hni,tailIn_own X ht⟩
  ·cases q
 ·cases q
def tRaise (C:Addr) (E:Value->Hp->Prop) (t:TA):TS:=fun _ σ H=>t σ H fun vs H1=>vs.length<=sizeLine/\E (.ref C) H1
theorem ps_raise {X:Cx} {x:Str} {C:Addr} {np cpos pos:Pos} {e₀ : Expr} {rest:List Expr} {t:TA} {E:Value->Hp->Prop} (hR:Raises X E) (hc:X.calm=true) (hC:excIn X.K C=true) (hg:Gl X x) (hm:X.mg x=some (.ref C)) (ha:PA X (e₀ :: rest) t)
  (he:starEach (e₀ :: rest) X.env=(false,eval e₀ X.env)::starEach rest X.env:=by rfl) (hpl:(backTo cpos (starEach rest X.env)).any (·.1)=false:=by rfl) (hd:(x == ("__debug__" : Str))=false:=by decide) :
  PS X (.Raise (some (.Call (.Name x np) (e₀ :: rest) [] cpos)) none pos) (tRaise C E t):=by
 intro pins s σ H D I h
 have O:OwnCls x C valBm "ValueError.__new__" X.mg X.base:=excIn_own I.mod.kin hm hC
 obtain⟨tl,N,nm,q,bs,hdct,sn,sub,ab,col,dd,k0,k1,k2,k3,k5,mN,hC',hN,hni,T⟩:=O.obj
 refine wpAny_Raise_call_subU (C:=C) (nm:=nm) (q:=q) (N:=N) (bs:=bs) (bm:=tl) (hdct:=hdct) (sn:=sn) (sub:=sub) (ab:=ab) (col:=col) (dd:=dd) (k0:=k0) (k1:=k1) (k2:=k2) (k3:=k3) (k5:=k5)
  PySem.F.excBase_ValueError (by decide) PySem.F.excBase_ValueError (mN:=mN) (T.hasType PySem.F.excBase_ValueError.hasBase) (I.ok.hd hc) (by rw[he]; show (false || (backTo cpos (starEach rest X.env)).any (·.1))=false; rw[hpl]; rfl) hni (ld_glob I hg hm ⟨rfl,?_⟩ hd)
 have ha':=ha cpos pins s σ H _ I h
 rw[he]at ha' ⊢
 refine Calls.evalArgs_plain (wpAny_mono ha' (fun vs s₂ z=>?_) fun _ _ y=>y)
 obtain⟨ws,H2,I2,r2,z,q2⟩:=z
 exact⟨rfl,by rw[<- r2.length]; exact z,I2.bk _ _ hC',hN.keeps I2.bk,T.keeps I2.bk,fun h' e mk=>hR pins σ H2 s₂ h' e _ _ I2 mk q2⟩
end L2
end
section
namespace L2
open PySem PySem.Spec PyProof.Rows
structure Callee (P:Program) (w:World) (K:PySem.W.Frag) (mg:Str->Option Value) (base:Heap) (x:Str) (k:Nat) (ps:List Str) (sp:Sp):Prop where
 ex:∃ f fd,FnOk P w K mg base (CXE P w) k f fd ps sp/\mg x=some (.ref f)/\PySem.W.keepIn K (.ref f)=true/\Binds K fd ps []
structure Method (P:Program) (w:World) (K:PySem.W.Frag) (mg:Str->Option Value) (base:Heap) (C:Addr) (m:Str) (k:Nat) (ps:List Str) (sp:Sp):Prop where
 ex:∃ f fd,FnOk P w K mg base (CXE P w) k f fd ps sp/\Meth K C m f/\Binds K fd ps []
structure Maker (P:Program) (w:World) (K:PySem.W.Frag) (mg:Str->Option Value) (base:Heap) (x:Str) (C:Addr) (k:Nat) (ps:List Str) (sp:Sp):Prop where
 ex:∃ f fd,FnOk P w K mg base (CXE P w) k f fd ps sp/\Mk K C f/\mg x=some (.ref C)/\Binds K fd ps []
def tFn (sp:Sp) (E:XK) (t:TA):TE:=fun σ H Q=>t σ H fun vs H1=>sp vs H1 Q E
def tMe (C:Addr) (m:Str) (sp:Sp) (E:XK) (ta:TE) (t:TA):TE:=fun σ H Q=>ta σ H fun x H1=>∃ a dx fs,x = .ref a/\H1 a=some (.ins C dx fs)/\fs.lookup m=none/\t σ H1 fun vs H2=>sp (x::vs) H2 Q E
def tMk (C:Addr) (sp:Sp) (E:XK) (t:TA):TE:=fun σ H Q=>t σ H fun vs H1=>∀ x dx,H1 x=none->H1 dx=none->dx≠x->
 sp (.ref x::vs) (upd (upd H1 dx (.own x)) x (.ins C dx [])) (fun v H2=>v = .non/\Q (.ref x) H2) E
section
variable {X:Cx} {k:Nat} {C:Addr} {ps:List Str} {sp:Sp} {E:XK} {x m:Str} {p pos apos:Pos} {e o:Expr} {es:List Expr} {ta:TE} {t:TA}
theorem tCall_nil {st:St} {H:Hp} {Q:VK} (h:tFn sp E t st H Q):tCall sp [] E t st H Q:=by
 unfold tCall
 unfold tFn at h
 have e:(fun vs H1=>sp (vs++[]) H1 Q E)=fun vs H1=>sp vs H1 Q E:=by
  funext vs H1
  rw[List.append_nil]
 rw[e]
 exact h
theorem pe_fn (c:Callee X.prog X.w X.K X.mg X.base x k ps sp) (hr:Room k X.A) (hx:Passes (CXE X.prog X.w) X E) (ha:PA X (e::es) t) (hg:Gl X x:=by rfl) (hdb:(x == ("__debug__" : Str))=false:=by decide)
  (he:starEach (e::es) X.env=(false,eval e X.env)::starEach es X.env:=by rfl) (hpl:(backTo pos (starEach es X.env)).any (·.1)=false:=by rfl):PE X (.Call (.Name x p) (e::es) [] pos) (tFn sp E t):=by
 obtain⟨f,fd,F,hm,hk,hb⟩:=c.ex
 intro pins s σ H Q I h
 exact pe_call F hr hg hm hk hb .nil hx ha hdb he hpl pins s σ H Q I (tCall_nil h)
theorem tMeth_nil {st:St} {H:Hp} {Q:VK} (h:tMe C m sp E ta t st H Q):tMeth C m sp [] E ta t st H Q:=by
 unfold tMeth
 unfold tMe at h
 have e:(fun(x:V) (H1:Hp)=>∃ a dx fs,x = .ref a/\H1 a=some (.ins C dx fs)/\fs.lookup m=none/\t st H1 fun vs H2=>sp (x::(vs++[])) H2 Q E)=fun x H1=>∃ a dx fs,x = .ref a/\H1 a=some (.ins C dx fs)/\fs.lookup m=none/\t st H1 fun vs H2=>sp (x::vs) H2 Q E:=by
  funext x H1
  simp only[List.append_nil]
 rw[e]
 exact h
theorem pe_me {pl:Sem Bool} (c:Method X.prog X.w X.K X.mg X.base C m k ps sp) (cl:Cls X.K C) (hr:Room k X.A) (hx:Passes (CXE X.prog X.w) X E) (ho:PE X o ta) (ha:PA X (e::es) t)
  (hst:starEach (e::es) X.env=(false,eval e X.env)::starEach es X.env:=by rfl) (hpl:(backTo pos (starEach es X.env)).any (·.1)=false:=by rfl)
  (ht:eval (.Call (.Attribute o m apos) (e::es) [] pos) X.env=(do
   let ov <- eval o X.env
   standAt apos.atName
   let (f,first) <- holding [ov] (getMethod ov m pl)
   callWith pos f first (backTo pos (starEach (e::es) X.env)) (backToKw pos (keywordEach [] X.env))):=by rfl) :
  PE X (.Call (.Attribute o m apos) (e::es) [] pos) (tMe C m sp E ta t):=by
 obtain⟨f,fd,F,hm,hb⟩:=c.ex
 intro pins s σ H Q I h
 exact pe_meth ho cl hm F hr hb .nil hx ha hst hpl ht pins s σ H Q I (tMeth_nil h)
theorem pe_me0 {pl:Sem Bool} (c:Method X.prog X.w X.K X.mg X.base C m k ps sp) (cl:Cls X.K C) (hr:Room k X.A) (hx:Passes (CXE X.prog X.w) X E) (ho:PE X o ta)
  (ht:eval (.Call (.Attribute o m apos) [] [] pos) X.env=(do
   let ov <- eval o X.env
   standAt apos.atName
   let (f,first) <- holding [ov] (getMethod ov m pl)
   callWith pos f first (backTo pos (starEach [] X.env)) (backToKw pos (keywordEach [] X.env))):=by rfl) :
  PE X (.Call (.Attribute o m apos) [] [] pos) (tMe C m sp E ta tNil):=by
 obtain⟨f,fd,F,hm,hb⟩:=c.ex
 intro pins s σ H Q I h
 exact pe_meth0 ho cl hm F hr hb .nil hx ht pins s σ H Q I (tMeth_nil h)
theorem tMake_nil {st:St} {H:Hp} {Q:VK} (h:tMk C sp E t st H Q):tMake C sp [] E t st H Q:=by
 unfold tMake
 unfold tMk at h
 simp only[List.append_nil]
 exact h
theorem pe_mk (c:Maker X.prog X.w X.K X.mg X.base x C k ps sp) (hr:Room (k+1) X.A) (hx:Passes (CXE X.prog X.w) X E) (ha:PA X (e::es) t) (hg:Gl X x:=by rfl) (hdb:(x == ("__debug__" : Str))=false:=by decide)
  (he:starEach (e::es) X.env=(false,eval e X.env)::starEach es X.env:=by rfl) (hpl:(backTo pos (starEach es X.env)).any (·.1)=false:=by rfl):PE X (.Call (.Name x p) (e::es) [] pos) (tMk C sp E t):=by
 obtain⟨f,fd,F,M,hm,hb⟩:=c.ex
 intro pins s σ H Q I h
 exact pe_make M F hr hg hm hb .nil hx ha hdb he hpl pins s σ H Q I (tMake_nil h)
end
abbrev TX:=Ends->XC->St->Hp->Prop
abbrev TEX:=St->Hp->VK->(Value->Hp->Prop)->Prop
section
variable {X:Cx} {k:Nat} {C:Addr} {ps:List Str} {sp:Sp} {x m:Str} {p pos apos:Pos} {e o:Expr} {es:List Expr} {ta:TE} {t:TA}
variable {st:Stmt} {sts rest:List Stmt} {tS:TS} {tx ux:TX} {te:TEX}
end
section
variable {X:Cx} {pins:List (Addr × Obj)} {σ : St} {H:Hp} {s:Shared} {e:Addr}
end
end L2
end
section
namespace L2
open PySem PySem.Spec PyProof.Rows
section
variable {prog:Program} {w:World} {A:Around} {R:Result->Shared->Prop} {s:Shared}
theorem compLoop_go {elt target iter:Expr} {ifs:List Expr} {scope:Scope} {pos:Pos} {it acc:Value} {env:Env} (I:Nat->Shared->Prop)
  (turn:∀ n s,I n s->wpAny (model prog w) A (pyNext it) (fun r s₁=>match r with
   | none=>R (.ok .next) s₁
   | some v=>wpAny (model prog w) A (letOwnedTupleGo target it v) (fun _ s₁'=>wpAny (model prog w) A (assign target env v) (fun _ s₂=>
     wpAny (model prog w) A (forIn ifs true fun c r=>if r=true then do let ok <- isTrue c env (eval c env); pure (ForInStep.yield ok) else pure (ForInStep.yield r)) (fun ok s₃=>
      if ok=true then wpAny (model prog w) A (eval elt env) (fun x s₄=>
       wpAny (model prog w) A (call (.builtin "list.append") [acc,x]) (fun _ s₅=>∃ m,m<n/\I m s₅) (fun _ _=>False) s₄) (fun _ _=>False) s₃
      else ∃ m,m<n/\I m s₃) (fun _ _=>False) s₂) (fun _ _=>False) s₁') (fun _ _=>False) s₁) (fun _ _=>False) s)
  (n:Nat) (h:I n s) :
  codeAny (model prog w) A (.compLoop (.ListComp elt [⟨target,iter,ifs,0⟩] scope pos) 0 it acc env) R s:=by
 refine codeAny_loop rfl I (fun n s hI=>?_) n h
 show wpAny _ A ((compTurn (.ListComp elt [⟨target,iter,ifs,0⟩] scope pos) 0 it acc env).onRaise (fun x=>do noteFrame x env; theTreesLotGoes x)) _ _ s
 refine wpAny_noted ?_
 rw[compTurn_list]
 refine wpAny_noRaise ?_
 refine wpAny_bind (wpAny_standAt (wpAny_bind (wpAny_mono (turn n s hI) (fun r s₁ h₁=>?_) fun _ _ h'=>h')))
 cases r with
 | none=>exact wpAny_pure h₁
 | some v=>
  refine wpAny_bind (wpAny_mono h₁ (fun _ s₁' h₁'=>?_) fun _ _ h'=>h')
  refine wpAny_bind (wpAny_mono h₁' (fun _ s₂ h₂=>wpAny_bind (wpAny_mono h₂ (fun ok s₃ h₃=>?_) fun _ _ h'=>h')) fun _ _ h'=>h')
  cases ok with
  | false=>exact wpAny_pure ⟨rfl,h₃⟩
  | true=>
   exact wpAny_bind (wpAny_bind (wpAny_mono h₃ (fun x s₄ h₄=>wpAny_bind (wpAny_mono h₄ (fun _ s₅ h₅=>wpAny_pure (wpAny_pure ⟨rfl,h₅⟩)) fun _ _ h'=>h')) fun _ _ h'=>h'))
end
def clOf (scope:Scope) (env:Env):List (Str × Addr):=(scope.names.filterMap fun y=>if y.2 == .free then (env.cells.lookup y.1).map (fun c=>(y.1,c)) else none).reverse
theorem lookup_mem {α β : Type} [BEq α] [LawfulBEq α] {l:List (α × β)} {x:α} {c:β} (h:l.lookup x=some c):(x,c)∈l:=by
 induction l with
 | nil=>cases h
 | cons p r ih=>
  obtain⟨a,b⟩:=p
  rw[List.lookup_cons]at h
  split at h
  ·rename_i e
   cases h
   rw[beq_iff_eq.mp e]
   exact List.mem_cons_self
  ·exact List.mem_cons_of_mem _ (ih h)
theorem clOf_in {scope:Scope} {env:Env} {x:Str} {c:Addr} (h:(clOf scope env).lookup x=some c):env.cells.lookup x=some c:=by
 have m:=lookup_mem h
 unfold clOf at m
 rw[List.mem_reverse]at m
 obtain⟨y,_,e⟩:=List.mem_filterMap.mp m
 split at e
 ·cases q:env.cells.lookup y.1 with
  | none=>rw[q]at e; cases e
  | some d=>
   rw[q]at e
   cases e
   exact q
 ·cases e
def compCx (X:Cx) (scope:Scope) (Nc:List Str) (C:Addr) (s₂ : Shared) (H₂ : Hp) (ex:List Addr):Cx where
 prog:=X.prog
 w:=X.w
 K:=X.K
 mg:=X.mg
 base:=X.base
 A:=X.A
 N:=Nc
 s₀:=s₂
 H₀:=H₂
 env:=compEnvC scope (clOf scope X.env) C X.env
 outer:=X.stack
 stack:=X.stack
 ex:=ex
 fn:=fun _=>false
 calm:=X.calm
 pn:=[]
 xe:=fun _ _=>False
def compOk (X:Cx) (scope:Scope) (F:List (Str × Nat)):Bool:=
 scope.names.all (fun y=>y.2 != .cell) && scope.names.all (fun y=>y.2 != .local || scope.names.lookup y.1 == some .local) &&
 (relabel scope X.env).names.all (fun y=>(y.2 != .cell && y.2 != .free) || ((clOf scope X.env).lookup y.1).isSome) &&
 F.all (fun p=>X.N[p.2]? == some p.1 && (X.env.kindOf p.1 == some .cell || X.env.kindOf p.1 == some .free) && ((relabel scope X.env).names.lookup p.1 == some .cell || (relabel scope X.env).names.lookup p.1 == some .free))
def compIn (T:List Str) (F:List (Str × Nat)) (σ : St):St:=T.map (fun _=>none)++F.map (fun p=>(σ[p.2]?).join)
def compN (T:List Str) (F:List (Str × Nat)):List Str:=T++F.map (·.1)
section
variable {X:Cx} {pins:List (Addr × Obj)} {σ : St} {H:Hp} {s:Shared} {scope:Scope} {T:List Str} {F:List (Str × Nat)} {fp:List Addr}
theorem comp_start (I:Inv X pins σ H s) (hk:scope.kind = .function) (ok:compOk X scope F=true) (hf:∀ b∈fp,FpOk X pins H b) (ho:∀ b∈fp,∃ o,s.heap.get? b=some o) {h₁ : Heap} {t:Nat}
  (hn:h₁.Ns (s.heap.objs.size+1) (fun _=>none)) (hs:Heap.SameBut (s.heap.objs.size+1) ((s.heap.push { cls:=.type "list",data:=.seq #[] }).push { cls:=.type "dict",data:=.dict #[] }) h₁) :
  Inv (compCx X scope (compN T F) (s.heap.objs.size+1) s H fp) [] (compIn T F σ) (upd H s.heap.objs.size (.lst [])) { s with heap:=h₁,toks:=t }:=by
 unfold compOk at ok
 simp only[Bool.and_eq_true]at ok
 obtain⟨⟨⟨ok1,ok2⟩,ok3⟩,ok4⟩:=ok
 have nH:H s.heap.objs.size=none:=I.hok.fresh (Nat.le_refl _)
 have kp:∀ b o,s.heap.get? b=some o->h₁.get? b=some o:=fun b o e=>by
  have l:=Heap.lt_size e
  rw[hs.2 b (Nat.ne_of_lt (Nat.lt_succ_of_lt l))]
  exact Heap.get?_push_of_some _ (Heap.get?_push_of_some _ e)
 have hD:h₁.get? s.heap.objs.size=some { cls:=.type "list",data:=.seq #[] }:=by
  rw[hs.2 _ (Nat.ne_of_lt (Nat.lt_succ_self _))]
  exact Heap.get?_push_of_some _ (Heap.get?_push_size _ rfl)
 have clx:∀ x c,(clOf scope X.env).lookup x=some c->X.env.cells.lookup x=some c:=fun x c e=>clOf_in e
 have celt:∀ x c,X.env.cells.lookup x=some c->c<s.heap.objs.size:=fun x c e=>by
  obtain⟨v,o,ho,_⟩:=I.cell x c e
  exact Heap.lt_size ho
 have OK:(compCx X scope (compN T F) (s.heap.objs.size+1) s H fp).Ok:=by
  refine⟨I.ok.mod,hk,I.ok.glob,I.ok.blt,Nat.le_succ _,fun x y c e1 e2=>I.ok.inj x y c (clx _ _ e1) (clx _ _ e2),fun x hx=>?_,(fun x c z=>Bool.noConfusion z),I.ok.hd,I.ok.frames,.inl rfl,fun b hb=>⟨?_,fun x c e=>?_⟩,I.bs,?_,fun b o e hb=>?_,fun b hb hb2=>?_,I.stack,I.stkFree⟩
  ·have hx:(relabel scope X.env).names.lookup x=some .cell\/(relabel scope X.env).names.lookup x=some .free:=hx
   have q:∀ k,(relabel scope X.env).names.lookup x=some k->(k = .cell\/k = .free)->((clOf scope X.env).lookup x).isSome=true:=fun k e hk=>by
    have z:=List.all_eq_true.mp ok3 (x,k) (lookup_mem e)
    rcases hk with rfl | rfl
    ·simpa using z
    ·simpa using z
   rcases hx with hx | hx
   ·exact Option.isSome_iff_exists.mp (q _ hx (.inl rfl))
   ·exact Option.isSome_iff_exists.mp (q _ hx (.inr rfl))
  ·obtain⟨o,e⟩:=ho b hb
   exact Nat.ne_of_lt (Nat.lt_succ_of_lt (Heap.lt_size e))
  ·exact(hf b hb).2.2.2.2.1 x c (clx x c e)
  ·exact Nat.le_trans I.ok.bsz I.sz
  ·obtain⟨_,_,_,h4,_⟩:=hf b hb
   rcases h4 with h4 | h4
   ·exact I.ok.noex b o e h4
   ·exact absurd (Nat.lt_of_lt_of_le (Heap.lt_size e) (Nat.le_trans I.ok.bsz h4)) (Nat.lt_irrefl _)
  ·rcases List.mem_cons.mp (I.stkSub b hb2) with z | z
   ·exact(hf b hb).2.1 z
   ·exact(hf b hb).2.2.1 z
 refine⟨OK,rfl,I.bare,Un.laid kp (Nat.le_refl _) nH,⟨_,hn,fun i x v e1 e2 hv=>?_⟩,fun x c e=>?_,?_,fun x c e=>?_,fun p hp=>absurd (show p∈([]:List (Addr × Obj)) from hp) (by simp),?_,?_⟩
 ·have e1:(compN T F)[i]? = some x:=e1
  unfold compN at e1
  unfold compIn at e2
  by_cases hi:i<T.length
  ·rw[List.getElem?_append_left (by simpa using hi),List.getElem?_map]at e2
   cases q:T[i]? with
   | none=>rw[q]at e2; cases e2
   | some z=>rw[q]at e2; cases e2
  ·rw[List.getElem?_append_right (by simpa using hi),List.getElem?_map]at e2
   rw[List.getElem?_append_right (by simpa using hi),List.getElem?_map]at e1
   rw[List.length_map]at e2
   cases q:F[i - T.length]? with
   | none=>rw[q]at e2; cases e2
   | some p=>
    rw[q]at e1 e2
    have e1:p.1=x:=Option.some.inj e1
    have e2:(σ[p.2]?).join=some v:=Option.some.inj e2
    subst e1
    have z:=List.all_eq_true.mp ok4 p (List.mem_of_getElem? q)
    simp only[Bool.and_eq_true,Bool.or_eq_true,beq_iff_eq]at z
    obtain⟨⟨z1,z2⟩,z3⟩:=z
    have e3:σ[p.2]? = some (some v):=by
     cases q2:σ[p.2]? with
     | none=>rw[q2]at e2; cases e2
     | some y=>rw[q2]at e2; exact congrArg some e2
    obtain⟨m,hm,hl⟩:=I.loc
    obtain⟨u,ru,lk⟩:=hl p.2 p.1 v z1 e3 (by rcases z2 with z2 | z2; exact .inr (.inl z2); exact .inr (.inr z2))
    refine⟨u,ru,.inr ⟨z3,?_⟩⟩
    have hc:∃ c,(clOf scope X.env).lookup p.1=some c:=OK.has p.1 z3
    obtain⟨c,hc⟩:=hc
    refine⟨c,hc,?_⟩
    rcases lk with ⟨lk,_⟩ | ⟨_,c',hc',hcell⟩
    ·rcases z2 with z2 | z2
     ·rw[z2]at lk; cases lk
     ·rw[z2]at lk; cases lk
    ·rw[clx _ _ hc]at hc'
     cases hc'
     exact hcell.keeps kp
 ·obtain⟨v,q⟩:=I.cell x c (clx x c e)
  exact⟨v,q.keeps kp⟩
 ·show upd H s.heap.objs.size (.lst []) (s.heap.objs.size+1)=none
  rw[upd_ne (Nat.ne_of_gt (Nat.lt_succ_self _))]
  exact I.hok.fresh (Nat.le_succ _)
 ·have l:=celt x c (clx x c e)
  show upd H s.heap.objs.size (.lst []) c=none
  rw[upd_ne (Nat.ne_of_lt l)]
  exact I.freeC x c (clx x c e)
 ·exact I.hok.laid kp (Nat.le_refl _) ⟨Nat.zero_le _,[],0,.nil,hD⟩
 ·show (compIn T F σ).length=(compN T F).length
  unfold compIn compN
  simp
def compBody (T:List Str) (F:List (Str × Nat)) (g:TG) (tc:TT) (te:TE) (σ : St) (Q:VK) (J:It) (H1:Hp):Prop:=∀ D,H1 D=none->∃ W:Nat->Nat->List V->St->Hp->Prop,(∃ m,W 0 m [] (compIn T F σ) (upd H1 D (.lst [])))/\
 ∀ i m ys σc H2,W i m ys σc H2->H2 D=some (.lst ys)/\((J.stop i H2/\Q (.ref D) H2)\/(J.go i H2/\ys.length<sizeLine/\∀ x H3,J.yld i H2 x H3->g x σc H3 fun σ4 H4=>tc σ4 H4 fun b H5=>
  if b=true then te σ4 H5 fun y H6=>H6 D=some (.lst ys)/\∃ m',m'<m/\W (i+1) m' (ys++[y]) σ4 (upd H6 D (.lst (ys++[y]))) else ∃ m',m'<m/\W (i+1) m' ys σ4 H5))
def tComp (T:List Str) (F:List (Str × Nat)) (wi:TI) (g:TG) (tc:TT) (te:TE):TE:=fun σ H Q=>wi σ H (compBody T F g tc te σ Q)
def PIf (X:Cx) (ifs:List Expr) (t:TT):Prop:=
 ∀ (pins:List (Addr × Obj)) (s:Shared) (σ : St) (H:Hp) (Q:Bool->Hp->Prop),Inv X pins σ H s->t σ H Q->wpAny (model X.prog X.w) X.A (forIn ifs true fun c r=>if r=true then do let ok <- isTrue c X.env (eval c X.env); pure (ForInStep.yield ok) else pure (ForInStep.yield r)) (TP X pins σ Q) X.xe s
def tTrue:TT:=fun _ H Q=>Q true H
theorem pif_nil {X:Cx}:PIf X [] tTrue:=fun pins s σ H Q I h=>wpAny_tests_nil ⟨H,I,h⟩
theorem pif_one {X:Cx} {c:Expr} {t:TT} (h:PT X c t):PIf X [c] t:=fun pins s σ H Q I q=>wpAny_tests_one (h pins s σ H Q I q)
theorem comp_end {s2 s':Shared} {σc:St} {H2 H':Hp} {h':Heap} {Nc:List Str} (I:Inv X pins σ H2 s2) (hf:∀ b∈fp,FpOk X pins H2 b) (I':Inv (compCx X scope Nc (s2.heap.objs.size+1) s2 H2 fp) [] σc H' s') (hs:Heap.SameBut (s2.heap.objs.size+1) s'.heap h'):Inv X pins σ H' { s' with heap:=h' }:=by
 have U:Un (frs X.stack) fp H2 H' s2.heap s'.heap:=I'.base
 have ne:∀ b o,s2.heap.get? b=some o->b≠s2.heap.objs.size+1:=fun b o e=>Nat.ne_of_lt (Nat.lt_succ_of_lt (Heap.lt_size e))
 have free:H' (s2.heap.objs.size+1)=none:=I'.free
 refine I.call' (s':={ s' with heap:=h' }) (ch:=fp) I'.os ⟨fun b o q n hb hc=>(hs.2 b (ne b o q)).trans (U.keep b o q n hb hc),fun b o q n hb hc=>?_,U.free,fun b o q hc=>?_,U.tups,U.frzs,U.tbls⟩ ?_ I'.bare fun b hb=>?_
 ·obtain⟨sl,z⟩:=U.slot b o q n hb hc
  exact⟨sl,(hs.2 b (ne b o q)).trans z⟩
 ·obtain⟨o',z⟩:=U.there b o q hc
  exact⟨o',(hs.2 b (ne b o q)).trans z⟩
 ·intro a o e
  refine(I'.hok a o e).stay (fun b u hb q=>(hs.2 b ?_).trans q) (fun _ q=>q) fun _ _ q=>q
  rintro rfl
  rcases hb with hb | hb
  ·rw[<- hb,free]at e; cases e
  ·rw[free]at hb; cases hb
 ·obtain⟨f0,f1,f2,f3,f4,f5⟩:=hf b hb
  exact⟨f3,f1,f4,f5⟩
theorem comp_core {elt tg iter:Expr} {ifs:List Expr} {pos:Pos} {g:TG} {tc:TT} {te:TE} {J:It} {it:Addr} {tn:Nat->Heap->Prop} {s2:Shared} {H2:Hp} {RR:Value->Addr->Result->Shared->Prop} {E:Value->Shared->Prop} {Q:Addr->Hp->Prop}
  (hc:X.calm=true) (hk:scope.kind = .function) (ok:compOk X scope F=true)
  (hg:∀ C s₂ H₂ ex,PG (compCx X scope (compN T F) C s₂ H₂ ex) tg g) (hif:∀ C s₂ H₂ ex,PIf (compCx X scope (compN T F) C s₂ H₂ ex) ifs tc) (he:∀ C s₂ H₂ ex,PE (compCx X scope (compN T F) C s₂ H₂ ex) elt te)
  (I2:Inv X pins σ H2 s2) (Tn:Turn X.prog X.w X.K tg J fp it tn) (st2:tn 0 s2.heap) (f2:∀ b∈fp,FpOk X pins H2 b)
  (h3:∀ D,H2 D=none->∃ W:Nat->Nat->List V->St->Hp->Prop,(∃ m,W 0 m [] (compIn T F σ) (upd H2 D (.lst [])))/\
   ∀ i m ys σc H2,W i m ys σc H2->H2 D=some (.lst ys)/\((J.stop i H2/\Q D H2)\/(J.go i H2/\ys.length<sizeLine/\∀ x H3,J.yld i H2 x H3->g x σc H3 fun σ4 H4=>tc σ4 H4 fun b H5=>
    if b=true then te σ4 H5 fun y H6=>H6 D=some (.lst ys)/\∃ m',m'<m/\W (i+1) m' (ys++[y]) σ4 (upd H6 D (.lst (ys++[y]))) else ∃ m',m'<m/\W (i+1) m' ys σ4 H5)))
  (hRR:∀ D s' σc H',Inv (compCx X scope (compN T F) (s2.heap.objs.size+1) s2 H2 fp) [] σc H' s'->Q D H'->RR (.ref D) (s2.heap.objs.size+1) (.ok .next) s') :
  wpAny (model X.prog X.w) X.A (newList []) (fun acc s₃=>wpAny (model X.prog X.w) X.A (newFunctionEnv scope X.env.globals (clOf scope X.env) [] X.env.qual none .none (some X.env)) (fun cenv s₄=>
   codeAny (model X.prog X.w) X.A (.compStart (.ListComp elt [⟨tg,iter,ifs,0⟩] scope pos) 0 (.ref it) acc { cenv with scope:=relabel scope X.env }) (RR acc cenv.locals) s₄) E s₃) E s2:=by
 have ok':=ok
 unfold compOk at ok'
 simp only[Bool.and_eq_true]at ok'
 obtain⟨⟨⟨ok1,ok2⟩,ok3⟩,ok4⟩:=ok'
 have hcell:∀ y∈scope.names,y.2 ≠ .cell:=fun y hy z=>by
  have:=List.all_eq_true.mp ok1 y hy
  rw[z]at this
  cases this
 refine wpAny_newObj_type (wpAny_newFunctionEnv hcell (by intro y hy; simp at hy) (fun h₁ hns₁ hsb₁=>?_) hk)
 dsimp only at hns₁ hsb₁ ⊢
 have hsz:(s2.heap.push { cls:=.type "list",dict:=none,data:=.seq ([]:List Value).toArray }).objs.size=s2.heap.objs.size+1:=Heap.size_push _ _
 rw[hsz]at hns₁ hsb₁ ⊢
 have I3:Inv (compCx X scope (compN T F) (s2.heap.objs.size+1) s2 H2 fp) [] (compIn T F σ) (upd H2 s2.heap.objs.size (.lst [])) { s2 with heap:=h₁,toks:=s2.toks+([]:List (Str × Value)).length }:=
  comp_start I2 hk ok f2 (fun b hb=>let ⟨o,e,_⟩:=Tn.obj _ _ st2 b hb; ⟨o,e⟩) hns₁ hsb₁
 obtain⟨W,⟨m0,w0⟩,turn⟩:=h3 s2.heap.objs.size (I2.hok.fresh (Nat.le_refl _))
 have stat:∀ {H':Hp},(∀ b∈fp,H' b=none)->∀ b∈fp,FpOk (compCx X scope (compN T F) (s2.heap.objs.size+1) s2 H2 fp) [] H' b:=fun {H'} hn b hb=>
  ⟨hn b hb,(I3.ok.exf b hb).1,I3.ok.exfs b hb,.inl hb,(I3.ok.exf b hb).2,fun p hp=>absurd (show p∈([]:List (Addr × Obj)) from hp) (by simp)⟩
 have st3:tn 0 h₁:=Tn.keep _ _ _ st2 fun b hb o e=>by
  have l:=Heap.lt_size e
  rw[hsb₁.2 b (Nat.ne_of_lt (Nat.lt_succ_of_lt l))]
  exact Heap.get?_push_of_some _ (Heap.get?_push_of_some _ e)
 have fr3:∀ b∈fp,(upd H2 s2.heap.objs.size (.lst [])) b=none:=fun b hb=>by
  obtain⟨o,e,_⟩:=Tn.obj _ _ st2 b hb
  rw[upd_ne (Nat.ne_of_lt (Heap.lt_size e))]
  exact(f2 b hb).1
 have loop:codeAny (model X.prog X.w) X.A (.compLoop (.ListComp elt [⟨tg,iter,ifs,0⟩] scope pos) 0 (.ref it) (.ref s2.heap.objs.size) (compEnvC scope (clOf scope X.env) (s2.heap.objs.size+1) X.env))
   (RR (.ref s2.heap.objs.size) (s2.heap.objs.size+1)) { s2 with heap:=h₁,toks:=s2.toks+([]:List (Str × Value)).length }:=by
  refine compLoop_go (fun n s'=>∃ i ys σ' H',Inv (compCx X scope (compN T F) (s2.heap.objs.size+1) s2 H2 fp) [] σ' H' s'/\tn i s'.heap/\(∀ b∈fp,H' b=none)/\W i n ys σ' H') ?_ m0 ⟨0,[],_,_,I3,st3,fr3,w0⟩
  rintro n s4 ⟨i,ys,σ4,H4,I4,st4,fr4,w4⟩
  obtain⟨hD,go⟩:=turn i n ys σ4 H4 w4
  rcases go with ⟨stop,qn⟩ | ⟨go,hz,step⟩
  ·refine thn (Tn.done (compCx X scope (compN T F) (s2.heap.objs.size+1) s2 H2 fp) rfl rfl rfl hc i [] s4 σ4 H4 (fun _ _=>False) I4 (stat fr4) st4 stop) fun r s5 ⟨hr,I5⟩=>?_
   subst hr
   exact hRR _ s5 σ4 H4 I5 qn
  ·refine thn (Tn.item (compCx X scope (compN T F) (s2.heap.objs.size+1) s2 H2 fp) rfl rfl rfl hc i [] s4 σ4 H4 (fun _ _=>False) I4 (stat fr4) st4 go) fun r s5 ⟨u,hr,h5⟩=>?_
   subst hr
   refine thn h5 fun _ s6 ⟨x,H6,I6,r6,y6,st6,fr6⟩=>?_
   have I6':=I6.pinned (stat fr6) (Tn.obj _ _ st6)
   refine thn (hg _ _ _ _ _ s6 σ4 H6 x u _ I6' r6 (step x H6 y6)) fun _ s7 ⟨σ7,H7,I7,q7⟩=>?_
   refine thn (hif _ _ _ _ _ s7 σ7 H7 _ I7 q7) fun b s8 ⟨H8,I8,q8⟩=>?_
   have again:∀ {s9:Shared} {σ9:St} {H9:Hp} {zs:List V},Inv (compCx X scope (compN T F) (s2.heap.objs.size+1) s2 H2 fp) ([]++pinsAt fp s6.heap) σ9 H9 s9->(∃ m',m'<n/\W (i+1) m' zs σ9 H9)->
     ∃ m,m<n/\∃ i ys σ' H',Inv (compCx X scope (compN T F) (s2.heap.objs.size+1) s2 H2 fp) [] σ' H' s9/\tn i s9.heap/\(∀ b∈fp,H' b=none)/\W i m ys σ' H':=fun {s9 σ9 H9 zs} I9 ⟨m',hm,w9⟩=>by
    refine⟨m',hm,i+1,zs,σ9,H9,I9.unpinned,Tn.keep _ _ _ st6 fun b hb o e=>(I9.pin (b,o) (List.mem_append_right _ (List.mem_append_right _ (mem_pinsAt hb e)))).1,fun b hb=>?_,w9⟩
    obtain⟨o,e,d⟩:=Tn.obj _ _ st6 b hb
    exact(I9.pin (b,o) (List.mem_append_right _ (List.mem_append_right _ (mem_pinsAt hb e)))).2.1
   cases b with
   | false=>
    rw[if_neg Bool.false_ne_true]at q8 ⊢
    exact again I8 q8
   | true=>
    rw[if_pos rfl]at q8 ⊢
    refine thn (he _ _ _ _ _ s8 σ7 H8 _ I8 q8) fun uy s9 ⟨y,H9,I9,r9,hD9,q9⟩=>?_
    refine thn (mt_append _ s9 σ7 H9 (.ref s2.heap.objs.size) [y] (.ref s2.heap.objs.size) [uy] (fun _ H'=>∃ m',m'<n/\W (i+1) m' (ys++[y]) σ7 H') I9 rfl (.cons r9 .nil) ⟨_,ys,y,rfl,rfl,hD9,hz,q9⟩) fun _ s10 ⟨_,H10,I10,_,q10⟩=>?_
    exact again I10 q10
 exact codeAny_compStart_list loop (Tn.self _ 0 _ _ _ st3 loop)
theorem pe_comp {elt tg iter:Expr} {ifs:List Expr} {pos:Pos} {wi:TI} {g:TG} {tc:TT} {te:TE} (T:List Str) (F:List (Str × Nat)) (hc:X.calm=true) (hi:PI X tg iter wi)
  (hg:∀ C s₂ H₂ ex,PG (compCx X scope (compN T F) C s₂ H₂ ex) tg g) (hif:∀ C s₂ H₂ ex,PIf (compCx X scope (compN T F) C s₂ H₂ ex) ifs tc) (he:∀ C s₂ H₂ ex,PE (compCx X scope (compN T F) C s₂ H₂ ex) elt te)
  (hclos:closureFor scope X.env=pure (clOf scope X.env):=by rfl) (hk:scope.kind = .function:=by rfl) (ok:compOk X scope F=true:=by rfl) (hs:∀ x,foldedSetIterable iter X.env x=pure x:=by intro _; rfl) :
  PE X (.ListComp elt [⟨tg,iter,ifs,0⟩] scope pos) (tComp T F wi g tc te):=by
 intro pins s σ H Q I h
 have ok':=ok
 unfold compOk at ok'
 simp only[Bool.and_eq_true]at ok'
 obtain⟨⟨⟨ok1,ok2⟩,ok3⟩,ok4⟩:=ok'
 have hnames:∀ x∈scope.names,x.2 = .local->scope.names.lookup x.1=some .local:=fun x hx z=>by
  have:=List.all_eq_true.mp ok2 x hx
  rw[z]at this
  simpa using this
 rw[eval_ListComp]
 refine wpAny_comprehension_free (use:=none) rfl hs hclos hk hnames (thn (hi pins s σ H _ I h) fun v s1 h1=>thn h1 fun itv s2 h2=>?_)
 obtain⟨it,fp,tn,J,H2,e,I2,Tn,st2,f2,h3⟩:=h2
 subst e
 refine comp_core (RR:=fun acc C=>compPost (model X.prog X.w) X.A X.xe none (EP X pins σ Q) acc C) (Q:=fun D H'=>Q (.ref D) H') hc hk ok hg hif he I2 Tn st2 f2 h3 fun D s' σc H' I' q=>?_
 obtain⟨m,hn,_⟩:=I'.loc
 exact⟨m,hn,fun h' hs'=>⟨.ref D,H',comp_end I2 f2 I' hs',rfl,q⟩⟩
theorem ps_setc {y:Str} {i:Nat} {py spos:Pos} {elt tg iter:Expr} {ifs:List Expr} {pos:Pos} {wi:TI} {g:TG} {tc:TT} {te:TE} (T:List Str) (F:List (Str × Nat)) (hN:X.N.Nodup) (hy:X.N[i]? = some y) (hx:Loc X.env.scope y) (hc:X.calm=true) (hi:PI X tg iter wi)
  (hg:∀ C s₂ H₂ ex,PG (compCx X scope (compN T F) C s₂ H₂ ex) tg g) (hif:∀ C s₂ H₂ ex,PIf (compCx X scope (compN T F) C s₂ H₂ ex) ifs tc) (he:∀ C s₂ H₂ ex,PE (compCx X scope (compN T F) C s₂ H₂ ex) elt te)
  (hsw:swapsWith (.ListComp elt [⟨tg,iter,ifs,0⟩] scope pos) (some (.Name y py)) spos.line X.env=pure true:=by rfl)
  (hclos:closureFor scope X.env=pure (clOf scope X.env):=by rfl) (hk:scope.kind = .function:=by rfl) (ok:compOk X scope F=true:=by rfl) (hs:∀ x,foldedSetIterable iter X.env x=pure x:=by intro _; rfl)
  (hfn:X.fn y=true\/X.env.scope.names.lookup y=some .local:=by first | exact .inl rfl | exact .inr rfl | assumption) :
  PS X (.Assign [.Name y py] (.ListComp elt [⟨tg,iter,ifs,0⟩] scope pos) spos) (fun D σ H=>tComp T F wi g tc te σ H fun v H'=>D.nx (σ.set i (some v)) H'):=by
 intro pins s σ H D I h
 have ok':=ok
 unfold compOk at ok'
 simp only[Bool.and_eq_true]at ok'
 obtain⟨⟨⟨ok1,ok2⟩,ok3⟩,ok4⟩:=ok'
 have hnames:∀ x∈scope.names,x.2 = .local->scope.names.lookup x.1=some .local:=fun x hx z=>by
  have:=List.all_eq_true.mp ok2 x hx
  rw[z]at this
  simpa using this
 rw[exec_Assign_Name_used _ _ _ _ hsw]
 refine wpAny_bind (wpAny_standAt (wpAny_bind ?_))
 show wpAny _ X.A (do let _ <- comprehension (.ListComp elt [⟨tg,iter,ifs,0⟩] scope pos) scope X.env _ (newList []) false (eval iter X.env) (some (assign (.Name y py) X.env))) _ _ s
 refine wpAny_bind (wpAny_mono (wpAny_comprehension_free (use:=some (assign (.Name y py) X.env)) (Q:=fun _ s'=>SP X pins D .next s') rfl hs hclos hk hnames
  (thn (hi pins s σ H _ I h) fun v s1 h1=>thn h1 fun itv s2 h2=>?_)) (fun _ s' hq=>wpAny_pure (wpAny_pure hq)) fun _ _ e=>e)
 obtain⟨it,fp,tn,J,H2,e,I2,Tn,st2,f2,h3⟩:=h2
 subst e
 refine comp_core (RR:=fun acc C=>compPost (model X.prog X.w) X.A X.xe (some (assign (.Name y py) X.env)) (fun _ s'=>SP X pins D .next s') acc C) (Q:=fun Dd H'=>D.nx (σ.set i (some (.ref Dd))) H') hc hk ok hg hif he I2 Tn st2 f2 h3 fun Dd s' σc H' I' q=>?_
 have I3:Inv X pins σ H' s':=comp_end I2 f2 I' ⟨rfl,fun _ _=>rfl⟩
 obtain⟨m,hn,_⟩:=I'.loc
 obtain⟨oC,es,ep,hoC,hdC,hkC,hmC⟩:=hn
 have fC:H' (s2.heap.objs.size+1)=none:=I'.free
 have hle:s2.heap.objs.size<=s2.heap.objs.size+1:=Nat.le_succ _
 have F0:=I2.fpOk (H':=H') hle fC
 obtain⟨g0,g1,g2,g3,g4,g5⟩:=F0
 have I4:Inv X (pins++[(s2.heap.objs.size+1,oC)]) σ H' s':=I3.pins_of fun p hp=>(List.mem_append.mp hp).elim (fun z=>I3.pin p (List.mem_append_right _ z)) fun z=>by
  have e:p=(s2.heap.objs.size+1,oC):=by simpa using z
  subst e
  exact⟨hoC,fC,g1,g2,fun v z=>by rw[hdC]at z; cases z⟩
 show wpAny _ X.A (assign (.Name y py) X.env (.ref Dd)) _ _ _
 refine thn (pg_name (pos:=py) hN hy hx hfn _ s' σ H' (.ref Dd) (.ref Dd) _ I4 rfl (show gName i (.ref Dd) σ H' D.nx from q)) fun _ s5 ⟨σ5,H5,I5,q5⟩=>?_
 have p5:=I5.pin (s2.heap.objs.size+1,oC) (List.mem_append_right _ (List.mem_append_right _ (by simp)))
 refine⟨m,⟨oC,es,ep,p5.1,hdC,hkC,hmC⟩,fun h' hs'=>?_⟩
 refine⟨σ5,H5,?_,q5⟩
 have I6:=I5.unpinned
 exact I6.turned (it:=s2.heap.objs.size+1) (t':=s5.toks) (fun b o hb e=>(hs'.2 b hb).trans e) p5.2.1 g1 g3 g4 g5
end
end L2
end
section
namespace L2
open PySem PySem.Spec PyProof.Rows
mutual
def Den (H:Hp):PyData->V->Prop
 | .none,v=>v = .non
 | .bool b,v=>v = .bl b
 | .int i,v=>v = .int i
 | .str x,v=>v = .str x
 | .tuple ds,v=>∃ a xs,v = .ref a/\H a=some (.tup xs)/\Dens H ds xs
 | .list ds,v=>∃ a xs,v = .ref a/\H a=some (.lst xs)/\Dens H ds xs
 | .dict _,_=>False
def Dens (H:Hp):List PyData->List V->Prop
 | [],xs=>xs=[]
 | d::ds,xs=>∃ x r,xs=x::r/\Den H d x/\Dens H ds r
end
section
variable {X:Cx} {pins:List (Addr × Obj)} {σ : St} {H H':Hp} {s:Shared} {K:PySem.W.Frag}
theorem Same.seqT {a:Addr} {xs:List V} (e:Same H H') (h:SqT K H a xs):SqT K H' a xs:=by
 rcases h with (h | ⟨o,h⟩) | h
 ·exact .inl (.inl (e _ _ h))
 ·exact .inl (.inr ⟨o,e _ _ h⟩)
 ·exact .inr h
mutual
theorem Den.same (e:Same H H'):∀ {d:PyData} {v:V},Den H d v->Den H' d v
 | .none,v,h=>by simp only[Den]at h ⊢; exact h
 | .bool b,v,h=>by simp only[Den]at h ⊢; exact h
 | .int i,v,h=>by simp only[Den]at h ⊢; exact h
 | .str x,v,h=>by simp only[Den]at h ⊢; exact h
 | .tuple ds,v,h=>by
  simp only[Den]at h ⊢
  obtain⟨a,xs,e1,h1,h2⟩:=h
  exact⟨a,xs,e1,e _ _ h1,Dens.same e h2⟩
 | .list ds,v,h=>by
  simp only[Den]at h ⊢
  obtain⟨a,xs,e1,h1,h2⟩:=h
  exact⟨a,xs,e1,e _ _ h1,Dens.same e h2⟩
 | .dict _,v,h=>by simp only[Den]at h
theorem Dens.same (e:Same H H'):∀ {ds:List PyData} {xs:List V},Dens H ds xs->Dens H' ds xs
 | [],xs,h=>by simp only[Dens]at h ⊢; exact h
 | d::ds,xs,h=>by
  simp only[Dens]at h ⊢
  obtain⟨x,r,e1,h1,h2⟩:=h
  exact⟨x,r,e1,Den.same e h1,Dens.same e h2⟩
end
mutual
theorem den_reads (I:Inv X pins σ H s):∀ {d:PyData} {v:V} {u:Value},Den H d v->RelV v u->∃ as,Reads s.heap u d as
 | .none,v,u,h,r=>by
  simp only[Den]at h
  subst h
  cases (show u=Value.none from r)
  exact⟨_,.none⟩
 | .bool b,v,u,h,r=>by
  simp only[Den]at h
  subst h
  cases (show u=Value.bool b from r)
  exact⟨_,.bool b⟩
 | .int i,v,u,h,r=>by
  simp only[Den]at h
  subst h
  obtain⟨t,e⟩:=(show ∃ t,u=Value.int i t from r)
  subst e
  exact⟨_,.int i t⟩
 | .str x,v,u,h,r=>by
  simp only[Den]at h
  subst h
  obtain⟨t,e⟩:=(show ∃ t,u=Value.str x t from r)
  subst e
  exact⟨_,.str x t⟩
 | .tuple ds,v,u,h,r=>by
  simp only[Den]at h
  obtain⟨a,xs,e1,h1,h2⟩:=h
  subst e1
  cases (show u=Value.ref a from r)
  obtain⟨its,rv,⟨o,ho,hc,n,hd⟩,_⟩:=I.tuple (SqT.of h1)
  obtain⟨as,ra⟩:=dens_reads I h2 rv
  exact⟨as,.tuple ho hc hd (by simpa using ra)⟩
 | .list ds,v,u,h,r=>by
  simp only[Den]at h
  obtain⟨a,xs,e1,h1,h2⟩:=h
  subst e1
  cases (show u=Value.ref a from r)
  obtain⟨its,rv,⟨o,n,ho,hc,_,hd⟩,_⟩:=I.list (SqL.of h1)
  obtain⟨as,ra⟩:=dens_reads I h2 rv
  exact⟨a::as,.list ho hc hd (by simpa using ra)⟩
 | .dict _,v,u,h,r=>by simp only[Den]at h
theorem dens_reads (I:Inv X pins σ H s):∀ {ds:List PyData} {xs:List V} {us:List Value},Dens H ds xs->Vals xs us->∃ as,ReadsAll s.heap us ds as
 | [],xs,us,h,r=>by
  simp only[Dens]at h
  subst h
  cases r
  exact⟨_,.nil⟩
 | d::ds,xs,us,h,r=>by
  simp only[Dens]at h
  obtain⟨x,rr,e1,h1,h2⟩:=h
  subst e1
  cases r with
  | cons r1 r2=>
   obtain⟨as,ra⟩:=den_reads I h1 r1
   obtain⟨bs,rb⟩:=dens_reads I h2 r2
   exact⟨_,.cons ra rb⟩
end
end
section
variable {X:Cx}
def rNeD:R2:=fun x y H Q=>∃ d e,Den H d x/\Den H e y/\SeqAt.shaped d=true/\SeqAt.shaped e=true/\Q (.bl (!PyData.eqv d e)) H
theorem op_neD (hu:X.A.units+64<cLine):OpR X (compareOp .NotEq) rNeD:=by
 intro pins s σ H x y v u Q I rx ry h
 obtain⟨d,e,h1,h2,s1,s2,q⟩:=h
 obtain⟨as,ra⟩:=den_reads I h1 rx
 obtain⟨bs,rb⟩:=den_reads I h2 ry
 exact ne_dataH ra rb s1 s2 hu ⟨.bl _,H,I,rfl,q⟩
def rIsi (K:PySem.W.Frag):List V->Hp->VK->Prop:=fun xs H Q=>∃ x n t b,xs=[x,.ty n]/\TyOf K H x t/\PySem.W.kitOne K t (.type n)=some b/\Q (.bl b) H
theorem call_isi:CallR X (.builtin "isinstance") (rIsi X.K):=by
 intro pins s σ H xs us Q I r h
 obtain⟨x,n,t,b,rfl,ty,hk,q⟩:=h
 cases r with
 | cons r1 r2=>
  cases r2 with
  | cons r2 r3=>
   cases r3
   cases (show _=Value.type n from r2)
   exact isinst_ok I r1 ty hk fun tk=>⟨.bl b,H,I.tok tk,rfl,q⟩
theorem same_upd {H:Hp} {p:Addr} {o:HO} (h:H p=none):Same H (upd H p o):=fun b u e=>by
 rw[upd_ne (ne_of_none e h)]
 exact e
def rCat2:R2:=fun x y H Q=>∃ a b xs ys,x = .ref a/\y = .ref b/\H a=some (.tup xs)/\H b=some (.tup ys)/\xs.length+ys.length<=sizeLine/\
 ∀ p H',Same H H'->H' p=some (.tup (xs++ys))->Q (.ref p) H'
theorem op_cat2:OpR X (binaryOp .Add) rCat2:=by
 intro pins s σ H x y v u Q I rx ry h
 obtain⟨a,b,xs,ys,rfl,rfl,ha,hb,hz,q⟩:=h
 by_cases hx:xs=[]
 ·subst hx
  cases (show v=Value.ref a from rx)
  cases (show u=Value.ref b from ry)
  obtain⟨its,r1,p1,_⟩:=I.tuple (SqT.of ha)
  obtain⟨its2,r2,p2,_⟩:=I.tuple (SqT.of hb)
  cases r1
  obtain⟨⟨cls,dd,data,sl⟩,ho,hc,n,hd⟩:=p1
  obtain⟨⟨cls2,dd2,data2,sl2⟩,ho2,hc2,n2,hd2⟩:=p2
  simp only at hc hd hc2 hd2
  subst hc hd hc2 hd2
  refine concat_meets ⟨_,ho,rfl⟩ ⟨_,ho2,rfl⟩ noFill_tuple_add seq_tuple_add PySem.F.slot_tuple_add PySem.F.entry_tuple_add (PySem.F.args_tuple_add_2 _ _)
   (tuple_addW0 a b _ _ n n2 dd dd2 sl sl2 rfl) ⟨ho,ho2,?_⟩
  exact⟨.ref b,H,I,rfl,q b H (Same.refl H) hb⟩
 ·refine op_catT pins s σ H (.ref a) (.ref b) v u Q I rx ry ⟨a,b,xs,ys,rfl,rfl,SqT.of ha,SqT.of hb,hx,hz,fun z=>?_,fun z p hp=>q p _ (same_upd hp) upd_same⟩
  subst z
  refine q a H (Same.refl H) ?_
  rw[List.append_nil]
  exact ha
def rSum (K:PySem.W.Frag):List V->Hp->VK->Prop:=fun xs H Q=>∃ (p:Addr) (ns:List Int),xs=[.ref p]/\(SqL K H p (ns.map V.int)\/SqT K H p (ns.map V.int))/\Q (.int ns.sum) H
theorem preSum_list (ns:List Int):∀ n,n<=ns.length->PySem.preSum (fun i=>ns.getD i 0) n=(ns.take n).sum
 | 0,_=>by simp [PySem.preSum]
 | n+1,h=>by
  have e:=preSum_list ns n (by omega)
  have hl:n<ns.length:=by omega
  unfold PySem.preSum
  rw[e,List.take_succ,List.sum_append]
  simp [List.getD,hl]
theorem ints_of {ns:List Int}:∀ {us:List Value},Vals (ns.map V.int) us->∀ i v,us.toArray[i]? = some v->∃ t,v=Value.int (ns.getD i 0) t:=by
 intro us r i v hv
 have hv:us[i]? = some v:=by simpa using hv
 have hl:i<us.length:=(List.getElem?_eq_some_iff.mp hv).1
 have hn:i<ns.length:=by
  have:=r.length
  rw[List.length_map]at this
  omega
 obtain⟨u,hu,ru⟩:=r.get (i:=i) (x:=V.int ns[i]) (by simp [hn])
 rw[hv]at hu
 cases hu
 obtain⟨t,e⟩:=ru
 exact⟨t,by rw[e]; simp [List.getD,hn]⟩
theorem call_sumI (hc:X.calm=true):CallR X (.builtin "sum") (rSum X.K):=by
 intro pins s σ H xs us Q I r h
 obtain⟨p,ns,rfl,hs,q⟩:=h
 cases r with
 | cons r1 r2=>
  cases r2
  cases (show _=Value.ref p from r1)
  have hh:X.A.in1.handled=none:=I.ok.hd hc
  have fin:∀ s',(∀ b o,b ∉ [s.heap.objs.size]->(s.heap.get? b=some o->s'.heap.get? b=some o))->s'.gens=s.gens->s'.os=s.os->∀ t',EP X pins σ Q (.int ns.sum t') s':=fun s' hk hg ho t'=>by
   obtain⟨h',g',d',tk',os'⟩:=s'
   dsimp only at hg ho
   subst hg ho
   refine⟨.int ns.sum,H,I.call (h':=h') (g':=s.gens) (d':=d') (t':=tk') (ch:=[]) (Un.kept fun b u e=>hk b u (by simpa using Nat.ne_of_lt (Heap.lt_size e)) e) (I.hok.kept fun b u e=>hk b u (by simpa using Nat.ne_of_lt (Heap.lt_size e)) e) I.bare (fun b z=>absurd z (by simp)),⟨t',rfl⟩,q⟩
  refine call_sum_walkAnyS ?_
  rcases hs with hs | hs
  ·obtain⟨its,rv,pl,hz⟩:=I.list hs
   have hlen:its.toArray.size=ns.length:=by
    have:=rv.length
    rw[List.length_map]at this
    simp [this]
   have ne:p≠s.heap.objs.size:=by
    obtain⟨o,n,ho,_⟩:=pl
    exact Nat.ne_of_lt (Heap.lt_size ho)
   refine wpAny_pyIter_list pl.isList ⟨s.heap.objs.size,_,_,_,_,_,_,(fun i=>ns.getD i 0),rfl,(Walks.list hh s.heap.objs.size p ne its.toArray).toS,⟨⟨_,Heap.get?_push_size _ rfl,rfl,rfl⟩,?_⟩,?_,fun i v hv=>ints_of rv i v hv,fun s' t' mv=>?_⟩
   ·obtain⟨o,n,ho,hc1,hd1,hd2⟩:=pl
    exact⟨o,Heap.get?_push_of_some _ ho,hc1,n,hd2⟩
   ·obtain⟨o,n,ho,_⟩:=pl
    intro b hb
    rw[Heap.size_push]
    rcases List.mem_cons.mp hb with rfl | hb
    ·exact Nat.lt_succ_self _
    ·have:b=p:=by simpa using hb
     subst this
     exact Nat.lt_succ_of_lt (Heap.lt_size ho)
   ·rw[hlen,preSum_list ns _ (Nat.le_refl _),List.take_length]
    exact fin s' (fun b o hb e=>mv.heap b o hb (Heap.get?_push_of_some _ e)) mv.gens mv.os t'
  ·obtain⟨its,rv,pl,hz⟩:=I.tuple hs
   have hlen:its.toArray.size=ns.length:=by
    have:=rv.length
    rw[List.length_map]at this
    simp [this]
   have ne:p≠s.heap.objs.size:=Nat.ne_of_lt pl.lt
   refine wpAny_pyIter_tuple (show s.heap.IsTuple p its.toArray from pl) ⟨s.heap.objs.size,_,_,_,_,_,_,(fun i=>ns.getD i 0),rfl,(Walks.tuple hh s.heap.objs.size p ne its.toArray).toS,⟨⟨_,Heap.get?_push_size _ rfl,rfl,rfl⟩,?_⟩,?_,fun i v hv=>ints_of rv i v hv,fun s' t' mv=>?_⟩
   ·obtain⟨o,ho,hc1,n,hd2⟩:=pl
    exact⟨o,Heap.get?_push_of_some _ ho,hc1,n,hd2⟩
   ·intro b hb
    rw[Heap.size_push]
    rcases List.mem_cons.mp hb with rfl | hb
    ·exact Nat.lt_succ_self _
    ·have:b=p:=by simpa using hb
     subst this
     exact Nat.lt_succ_of_lt pl.lt
   ·rw[hlen,preSum_list ns _ (Nat.le_refl _),List.take_length]
    exact fin s' (fun b o hb e=>mv.heap b o hb (Heap.get?_push_of_some _ e)) mv.gens mv.os t'
end
end L2
end
section
namespace L2
open PySem PySem.Spec PyProof.Rows
section
variable {prog:Program} {w:World} {A:Around} {E:Value->Shared->Prop} {s:Shared}
theorem typeCallKw {T nid:String} {Bn:Builtin} {as:List Value} {kw:List (Str × Value)} {S:PySem.Spec} {Q:Value->Shared->Prop} (tc:TypeCalled T nid "object.__init__")
  (hct:checkTypeCall T ⟨as,kw⟩=pure ()) (hcn:checkBuiltinCall nid ⟨.type T::as,kw⟩=pure ()) (ent:entryFor table nid=some Bn) (g:Meets (Bn ⟨.type T::as,kw⟩) S)
  (hi:∀ (obj:Value),argsOk "object.__init__" ⟨obj::as,kw⟩) (gi:∀ (obj:Value),Meets (Builtin.«object.__init__» ⟨obj::as,kw⟩) (fun _ R s=>s.TypeIs obj T/\R (.ok (.ret .none)) s))
  (h:S A.in1 (wants (fun obj s₁=>s₁.TypeIs obj T/\Q obj s₁) E) s):wpAny (model prog w) A (call (.type T) as kw) Q E s:=by
 obtain⟨c0,t0,e0⟩:=tc.mro
 have e1:=tc.made
 have e2:=tc.sub
 refine wpAny_call (codeAny_of_tree ?tree)
 case tree=>
  show wpAny _ _ (callAny (.type T) _) _ _ _
  refine wpAny_pure ⟨Code.quiet_builtin _ (by decide +kernel),codeAny_builtin PySem.F.entry_type_call ?inner⟩
  rw[Around.under_plain (weight_type_call_type T as kw) (units_type_call_type T as kw)]
  have e3:=tc.notType
  have e4:=tc.canCreate
  repeat (any_goals (first | assumption | wp_step))
  refine codeAny_mono (codeAny_call_builtin tc.plain ent (wpAny_of_eq hcn (g prog w A.in1 _ s h))) fun r1 s1 q1=>?_
  cases r1 with
  | error ex=>exact q1
  | ok f1=>
   cases f1 with
   | ret ob=>
    have q1':s1.TypeIs ob T/\Q ob s1:=q1
    obtain⟨ty,q2⟩:=q1'
    have e5:=tc.init.lookup
    have e6:=tc.init.bind ob
    repeat (any_goals (first | assumption | wp_step))
    refine codeAny_mono (codeAny_call_builtin tc.init.plain PySem.F.entry_object_init (tc.init.check _ _ _ _ _ _ _ _ ty (hi ob) (gi ob prog w A.in1 (wants (fun r s₂=>r = .none/\Q ob s₂) E) s1 ⟨ty,rfl,q2⟩))) fun r2 s2 q3=>?_
    cases r2 with
    | error ex=>exact q3
    | ok f2=>
     cases f2 with
     | ret rr=>
      obtain⟨rfl,q4⟩:=q3
      repeat (any_goals (first | assumption | wp_step))
     | _=>exact q3.elim
   | _=>exact q1.elim
theorem enum_typeCall (a b:Value):checkTypeCall "enumerate" ⟨[a],[("start",b)]⟩=pure ():=by kernel_rfl
theorem enum_newCall (a b:Value):checkBuiltinCall "enumerate.__new__" ⟨[.type "enumerate",a],[("start",b)]⟩=pure ():=by kernel_rfl
theorem enum_new_kw (l:Addr) (items:Array Value) (n:Nat) (dct:Option Addr) (sl:Array (Option Value)) (t:Tok) :
  Meets (Builtin.«enumerate.__new__» ⟨[.type "enumerate",.ref l],[("start",.int 1 t)]⟩) (fun _ R s=>s.heap.get? l=some { cls:=.type "tuple",dict:=dct,data:=.seq items n,slots:=sl }/\
   R (.ok (.ret (.ref (s.heap.push { cls:=.type "tuple_iterator",data:=.fields #[.ref l,.int 0 0] }).objs.size)))
    { s with heap:=(s.heap.push { cls:=.type "tuple_iterator",data:=.fields #[.ref l,.int 0 0] }).push { cls:=.type "enumerate",data:=.fields #[.none,.bool false,.ref s.heap.objs.size,rawInt 1,.none,.none] } }):=
 .of_wp fun prog w A R s h=>by
  obtain⟨hp,g,d,tk,os⟩:=s
  obtain⟨hl,h⟩:=h
  have z1:=sub_enumerate
  have z2:Heap.IsTuple (Shared.heap ⟨hp,g,d,tk,os⟩) l items:=⟨_,hl,rfl,n,rfl⟩
  wp_walk using AutoSeq1.wpAny_loadPart' hl
  refine wpAny_stack_any fun st=>wpAny_pure ?_
  split
  ·rename_i c _ _ _ _ _
   cases (c == Value.type "enumerate")
   ·wp_walk using AutoSeq1.wpAny_loadPart' hl,wpAny_pyIter_tuple z2
    exact⟨_,rfl,h⟩
   ·wp_walk using AutoSeq1.wpAny_loadPart' hl,wpAny_pyIter_tuple z2
    exact⟨_,rfl,h⟩
  ·wp_walk using AutoSeq1.wpAny_loadPart' hl,wpAny_pyIter_tuple z2
   exact⟨_,rfl,h⟩
theorem init_kw (obj a b:Value):argsOk "object.__init__" ⟨[obj,a],[("start",b)]⟩:=by
 unfold argsOk
 rw[signature?_of (id:="object.__init__") (n:=['_','_','t','i','n','i','_','_']) (o:=['t','c','e','j','b','o']) (by kernel_rfl) PySem.F.owner_object]
 kernel_rfl
theorem init_kw_meets (obj a b:Value):Meets (Builtin.«object.__init__» ⟨[obj,a],[("start",b)]⟩) (fun _ R s=>s.TypeIs obj "enumerate"/\R (.ok (.ret .none)) s):=by
 refine Meets.of_wp fun prog w A R s hs=>?_
 obtain⟨ty,q⟩:=hs
 have e1:=PySem.F.called_enumerate.made
 have e2:=PySem.F.called_enumerate.init.lookup
 repeat (any_goals (first | assumption | wp_step))
 exact⟨_,rfl,q⟩
end
end L2
end
section
namespace L2
open PySem PySem.Spec PyProof.Rows
section
variable {prog:Program} {w:World} {A:Around} {E:Value->Shared->Prop} {s:Shared}
theorem nextTup {it t:Addr} {i:Nat} {items:Array Value} {x:Value} {Q:Value->Shared->Prop} (hit:s.heap.IsTupleIter it t i) (ht:s.heap.IsTuple t items) (hx:items[i]? = some x)
  (hQ:∀ h',h'.IsTupleIter it t (i+1)->Heap.SameBut it s.heap h'->Q x { s with heap:=h' }):wpAny (model prog w) A (Builtin.SmallTypes.nextOf (.ref it)) Q E s:=by
 obtain⟨oi,hoi,hci,hdi⟩:=id hit
 obtain⟨ot,hot,_,nt,hdt⟩:=ht
 unfold Builtin.SmallTypes.nextOf
 refine wpAny_bind (wpAny_callSpecial?_slot (name:=Str.ofString "__next__") hit.typeIs PySem.F.slot_tuple_iterator_next (wpAny_call_entry PySem.F.slot_tuple_iterator_next hit.typeIs PySem.F.entry_tuple_iterator_next ?nx (PySem.F.args_tuple_iterator_next_1 _)))
 case nx=>
  show wpAny _ _ (field (.ref it) 0 >>= _) _ _ s
  refine wpAny_bind (wpAny_field hoi hdi (x:=.ref t) rfl ?_)
  show wpAny _ _ (if (Value.ref t == Value.none)=true then _ else _) _ _ s
  rw[if_neg (show ¬ ((Value.ref t == Value.none)=true) from Bool.false_ne_true)]
  show wpAny _ _ (field (.ref it) 1 >>= _) _ _ s
  refine wpAny_bind (wpAny_field hoi hdi (x:=.int i 0) rfl ?_)
  show wpAny _ _ (seqItems? (.ref t) >>= _) _ _ s
  refine wpAny_bind (wpAny_seqItems hot hdt ?_)
  simp only[Int.toNat_natCast,hx]
  refine wpAny_bind (wpAny_setField hoi hdi (by simp) (wpAny_pure ⟨x,rfl,wpAny_pure (hQ _ ⟨_,Heap.get?_update_self _ hoi (Obj.isFreed_of_fields (Obj.data_mapFields hdi _)),(Obj.cls_mapFields ..).trans hci,?_⟩ (Heap.SameBut.update ..))⟩))
  rw[Obj.data_mapFields hdi]
  simp [rawInt]
theorem enumStep {e it t:Addr} {i:Nat} {lo:Int} {items:Array Value} {x old:Value} {Q:Option Value->Shared->Prop}
  (he:IsEnum s.heap e it (lo+i) old) (hit:s.heap.IsTupleIter it t i) (ht:s.heap.IsTuple t items) (hx:items[i]? = some x) (hne:e≠it)
  (hQ:∀ h',IsEnumOut h' e it (lo+i+1) x s.heap.objs.size->h'.IsTupleIter it t (i+1)->
   h'.get? s.heap.objs.size=some { cls:=.type "tuple",data:=.seq #[.int (lo+i) s.toks,x] }->(∀ b o,b≠e->b≠it->s.heap.get? b=some o->h'.get? b=some o)->
   Q (some (.ref s.heap.objs.size)) { s with heap:=h',toks:=s.toks+1 }):wpAny (model prog w) A (pyNext (.ref e)) Q E s:=by
 have ty:s.TypeIs (.ref e) "enumerate":=⟨_,he,rfl⟩
 unfold pyNext
 refine wpAny_bind (wpAny_attempt (wpAny_callSpecial?_slot (name:=Str.ofString "__next__") ty PySem.F.slot_enumerate_next (wpAny_call_entry PySem.F.slot_enumerate_next ty PySem.F.entry_enumerate_next ?nx (PySem.F.args_enumerate_next_1 _))))
 case nx=>
  obtain⟨hp,g,d,tk,os⟩:=s
  show wpAny _ _ (field (.ref e) 2 >>= _) _ _ _
  refine wpAny_bind (wpAny_field he rfl (x:=.ref it) rfl ?_)
  refine wpAny_bind (nextTup hit ht hx fun k1 hit1 sb1=>?_)
  replace sb1:Heap.SameBut it hp k1:=sb1
  have g1:IsEnum k1 e it (lo+i) old:=(sb1.2 e hne).trans he
  show wpAny _ _ (field (.ref e) 3 >>= _) _ _ ⟨k1,g,d,tk,os⟩
  refine wpAny_bind (wpAny_field g1 rfl (x:=rawInt (lo+i)) rfl ?_)
  show wpAny _ _ (field (.ref e) 4 >>= _) _ _ ⟨k1,g,d,tk,os⟩
  refine wpAny_bind (wpAny_field g1 rfl (x:=.none) rfl ?_)
  show wpAny _ _ (mkInt (lo+i) >>= _) _ _ ⟨k1,g,d,tk,os⟩
  refine wpAny_bind (wpAny_mkInt ?_)
  show wpAny _ _ (setField (.ref e) 3 (rawInt (lo+i+1)) >>= _) _ _ ⟨k1,g,d,tk+1,os⟩
  refine wpAny_bind (wpAny_setField_rec g1 (by simp) fun k2 g2 sb2=>?_)
  replace sb2:Heap.SameBut e k1 k2:=sb2
  replace g2:IsEnum k2 e it (lo+i+1) old:=g2
  show wpAny _ _ (setField (.ref e) 4 .none >>= _) _ _ ⟨k2,g,d,tk+1,os⟩
  refine wpAny_bind (wpAny_setField_rec g2 (by simp) fun k3 g3 sb3=>?_)
  replace sb3:Heap.SameBut e k2 k3:=sb3
  replace g3:IsEnum k3 e it (lo+i+1) old:=g3
  show wpAny _ _ (newTuple [.int (lo+i) tk,x] >>= _) _ _ ⟨k3,g,d,tk+1,os⟩
  refine wpAny_bind (wpAny_newTuple ?_)
  have g4:IsEnum (k3.push { cls:=.type "tuple",data:=.seq #[.int (lo+i) tk,x] }) e it (lo+i+1) old:=Heap.get?_push_of_some _ g3
  generalize hk4:k3.push { cls:=.type "tuple",data:=.seq #[.int (lo+i) tk,x] }=k4 at g4
  have sz:k3.objs.size=hp.objs.size:=by rw[sb3.1,sb2.1,sb1.1]
  have el:e<hp.objs.size:=Heap.lt_size he
  have t4:k4.get? hp.objs.size=some { cls:=.type "tuple",data:=.seq #[.int (lo+i) tk,x] }:=by
   rw[<- hk4,<- sz]
   exact Heap.get?_push_size _ rfl
  have kp4:∀ b o,b≠e->b≠it->hp.get? b=some o->k4.get? b=some o:=fun b o n1 n2 q=>by
   rw[<- hk4]
   exact Heap.get?_push_of_some _ (sb3.extBut b o n1 (sb2.extBut b o n1 (sb1.extBut b o n2 q)))
  have hit4:k4.IsTupleIter it t (i+1):=by
   obtain⟨o,ho,r⟩:=hit1
   rw[<- hk4]
   exact⟨o,Heap.get?_push_of_some _ (sb3.extBut it o (Ne.symm hne) (sb2.extBut it o (Ne.symm hne) ho)),r⟩
  show wpAny _ _ (Builtin.SmallTypes.ownedTupleIsFree (.ref e) >>= _) _ _ ⟨k4,g,d,tk+1,os⟩
  rw[sz]
  clear hk4 g3 sb3 g2 sb2 g1 sb1 hit1 sz k3 k2 k1
  refine wpAny_bind ?_
  unfold Builtin.SmallTypes.ownedTupleIsFree
  refine wpAny_bind (wpAny_field g4 rfl (x:=.none) rfl (wpAny_pure ?_))
  simp only[if_true]
  refine wpAny_bind (wpAny_rule ?_)
  refine wpAny_bind (wpAny_field g4 rfl (x:=old) rfl ?_)
  refine wpAny_bind (wpAny_setField_rec g4 (by simp) fun k5 g5 sb5=>?_)
  replace sb5:Heap.SameBut e k4 k5:=sb5
  replace g5:IsEnum k5 e it (lo+i+1) x:=g5
  show wpAny _ _ (Builtin.SmallTypes.ownedTupleHandOut (.ref e) (.ref hp.objs.size) >>= _) _ _ ⟨k5,g,d,tk+1,os⟩
  refine wpAny_bind ?_
  unfold Builtin.SmallTypes.ownedTupleHandOut
  refine wpAny_bind (wpAny_setField_rec g5 (by simp) fun k6 g6 sb6=>?_)
  replace sb6:Heap.SameBut e k5 k6:=sb6
  replace g6:IsEnumOut k6 e it (lo+i+1) x hp.objs.size:=g6
  refine wpAny_setField_rec g6 (by simp) fun k7 g7 sb7=>?_
  replace sb7:Heap.SameBut e k6 k7:=sb7
  replace g7:IsEnumOut k7 e it (lo+i+1) x hp.objs.size:=g7
  refine wpAny_bind (wpAny_letGo (wpAny_pure ⟨_,rfl,wpAny_pure (hQ k7 g7 ?_ ?_ ?_)⟩))
  ·obtain⟨o,ho,r⟩:=hit4
   exact⟨o,sb7.extBut it o (Ne.symm hne) (sb6.extBut it o (Ne.symm hne) (sb5.extBut it o (Ne.symm hne) ho)),r⟩
  ·exact sb7.extBut _ _ (Nat.ne_of_gt el) (sb6.extBut _ _ (Nat.ne_of_gt el) (sb5.extBut _ _ (Nat.ne_of_gt el) t4))
  ·exact fun b o n1 n2 q=>sb7.extBut b o n1 (sb6.extBut b o n1 (sb5.extBut b o n1 (kp4 b o n1 n2 q)))
theorem enumEnd {e it t:Addr} {i:Nat} {lo:Int} {items:Array Value} {old:Value} {Q:Option Value->Shared->Prop} (hh:A.handled=none)
  (he:IsEnum s.heap e it lo old) (hit:s.heap.IsTupleIter it t i) (ht:s.heap.IsTuple t items) (hx:items[i]? = none)
  (hQ:∀ h',Heap.ExtBut it s.heap h'->Q none { s with heap:=h' }):wpAny (model prog w) A (pyNext (.ref e)) Q E s:=by
 have ty:s.TypeIs (.ref e) "enumerate":=⟨_,he,rfl⟩
 obtain⟨oi,hoi,hci,hdi⟩:=id hit
 obtain⟨ot,hot,_,nt,hdt⟩:=ht
 unfold pyNext
 refine wpAny_bind (wpAny_attempt (wpAny_callSpecial?_slot (name:=Str.ofString "__next__") ty PySem.F.slot_enumerate_next (wpAny_call_entry PySem.F.slot_enumerate_next ty PySem.F.entry_enumerate_next ?nx (PySem.F.args_enumerate_next_1 _))))
 case nx=>
  show wpAny _ _ (field (.ref e) 2 >>= _) _ _ _
  refine wpAny_bind (wpAny_field he rfl (x:=.ref it) rfl ?_)
  refine wpAny_bind ?_
  unfold Builtin.SmallTypes.nextOf
  refine wpAny_bind (wpAny_callSpecial?_slot (name:=Str.ofString "__next__") hit.typeIs PySem.F.slot_tuple_iterator_next (wpAny_call_entry PySem.F.slot_tuple_iterator_next hit.typeIs PySem.F.entry_tuple_iterator_next ?nx2 (PySem.F.args_tuple_iterator_next_1 _)))
  case nx2=>
   show wpAny _ _ (field (.ref it) 0 >>= _) _ _ s
   refine wpAny_bind (wpAny_field hoi hdi (x:=.ref t) rfl ?_)
   show wpAny _ _ (if (Value.ref t == Value.none)=true then _ else _) _ _ s
   rw[if_neg (show ¬ ((Value.ref t == Value.none)=true) from Bool.false_ne_true)]
   show wpAny _ _ (field (.ref it) 1 >>= _) _ _ s
   refine wpAny_bind (wpAny_field hoi hdi (x:=.int i 0) rfl ?_)
   show wpAny _ _ (seqItems? (.ref t) >>= _) _ _ s
   refine wpAny_bind (wpAny_seqItems hot hdt ?_)
   simp only[Int.toNat_natCast,hx]
   refine wpAny_bind (wpAny_rule (wpAny_bind (wpAny_setField hoi hdi (by simp) ?_)))
   show wpAny _ _ (newExc (.type "StopIteration") [] >>= _) _ _ _
   refine wpAny_bind ?_
   simp only[newExc,newTuple]
   refine wpAny_bind (wpAny_newObj_type ?_ (by size_fits))
   refine wpAny_bind (m:=firstArgMember _ _) (wpAny_of_eq (a:=Value.none) (by first | rfl | (simp only[firstArgMember]; rfl)) ?_)
   refine wpAny_newObj_type ?_ (by size_fits)
   simp only[raiseNew]
   refine wpAny_bind (wpAny_handled ?_)
   first | rw[show A.in1.handled=none from hh] | rw[show A.in1.in1.handled=none from hh] | rw[hh]
   refine wpAny_bind (wpAny_pure (wpAny_throw ?_))
   refine wpAny_bind (wpAny_isInstance (T:="StopIteration") (b:=true) ⟨_,Heap.get?_push_size _ rfl,rfl⟩ isSubtype_stop ?_)
   exact wpAny_pure (hQ _ (((Heap.SameBut.update ..).extBut.push _).push _))
end
def Ite (K:PySem.W.Frag) (lo:Int) (a:Addr):It:=
 ⟨fun i H=>∃ xs x,SqT K H a xs/\xs[i]? = some x,fun i H x H'=>∃ p v,x = .ref p/\H p=none/\H'=upd H p (.tup [.int (lo+i),v])/\∀ xs,SqT K H a xs->xs[i]? = some v,fun i H=>∃ xs,SqT K H a xs/\xs.length<=i⟩
section
variable {X:Cx} {pins:List (Addr × Obj)} {σ : St} {H:Hp} {s:Shared}
theorem Inv.turned2 {t':Nat} {e it p:Addr} {xs:List V} {h':Heap} (I:Inv X pins σ H s) (fe:FpOk X pins H e) (fi:FpOk X pins H it) (hp:s.heap.objs.size<=p) (k:∀ b o,b≠e->b≠it->s.heap.get? b=some o->h'.get? b=some o)
  (th:(∃ o,h'.get? e=some o)/\∃ o,h'.get? it=some o) (new:ObjOk X.prog X.w (upd H p (.tup xs)) h' p (.tup xs)):Inv X pins σ (upd H p (.tup xs)) { s with heap:=h',toks:=t' }:=by
 have hn:=I.hok.fresh hp
 have np:∀ b o,s.heap.get? b=some o->b≠p:=fun b o q=>Nat.ne_of_lt (Nat.lt_of_lt_of_le (Heap.lt_size q) hp)
 refine I.call' (s':={ s with heap:=h',toks:=t' }) (ch:=[e,it]) rfl ⟨fun b o q n _ hc=>?_,fun b o q n _ hc=>⟨o.slots,?_⟩,fun b o q n _=>?_,fun b o q hc=>⟨o,?_⟩,fun b ys q=>?_,fun b u ys q=>?_,fun b ps q=>⟨#[],?_⟩⟩ ?_ I.bare fun b hb=>?_
 ·exact k b o (fun z=>hc (by simp [z])) (fun z=>hc (by simp [z])) q
 ·exact k b o (fun z=>hc (by simp [z])) (fun z=>hc (by simp [z])) q
 ·rw[upd_ne (np b o q)]
  exact n
 ·exact k b o (fun z=>hc (by simp [z])) (fun z=>hc (by simp [z])) q
 ·rw[upd_ne (ne_of_none q hn)]
  exact q
 ·rw[upd_ne (ne_of_none q hn)]
  exact q
 ·rw[upd_ne (ne_of_none q hn),q]
  simp
 ·intro b u q
  by_cases hb:b=p
  ·subst hb
   rw[upd_same]at q
   cases q
   exact new
  ·rw[upd_ne hb]at q
   refine(I.hok b u q).stay (fun c v hc r=>k c v ?_ ?_ r) (fun c r=>by rw[upd_ne (ne_of_none r hn)]; exact r) fun c ys r=>by rw[upd_ne (ne_of_none r hn)]; exact r
   ·rintro rfl
    rcases hc with hc | hc
    ·rw[<- hc,fe.1]at q; cases q
    ·rw[fe.1]at hc; cases hc
   ·rintro rfl
    rcases hc with hc | hc
    ·rw[<- hc,fi.1]at q; cases q
    ·rw[fi.1]at hc; cases hc
 ·rcases List.mem_cons.mp hb with rfl | hb
  ·exact⟨fe.2.2.2.1,fe.2.1,fe.2.2.2.2.1,fe.2.2.2.2.2⟩
  ·have:b=it:=by simpa using hb
   subst this
   exact⟨fi.2.2.2.1,fi.2.1,fi.2.2.2.2.1,fi.2.2.2.2.2⟩
theorem turn_enum {P:Program} {w:World} {K:PySem.W.Frag} {elts:List Expr} {x1:Nat} {tp:Pos} (lo:Int) (a e it:Addr) (hne:e≠it) :
  Turn P w K (.Tuple elts x1 tp) (Ite K lo a) [e,it] e (fun i h=>(∃ old,IsEnum h e it (lo+(i:Nat)) old)/\h.IsTupleIter it a i) where
 mem:=by simp
 obj:=fun i h st b hb=>by
  obtain⟨⟨old,he⟩,o,ho,hc,hd⟩:=st
  rcases List.mem_cons.mp hb with rfl | hb
  ·exact⟨_,he,fun v z=>by cases (show Data.fields _=Data.cell v from z)⟩
  ·have:b=it:=by simpa using hb
   subst this
   exact⟨o,ho,fun v z=>by rw[hd]at z; cases z⟩
 keep:=fun i h h' st k=>by
  obtain⟨⟨old,he⟩,o,ho,r⟩:=st
  exact⟨⟨old,k e (by simp) _ he⟩,o,k it (by simp) _ ho,r⟩
 item:=by
  intro X hP hw hK hc i pins s σ H E I hf st hg
  subst hP hw hK
  obtain⟨⟨old,he⟩,hit⟩:=st
  obtain⟨xs,x,hq,hx⟩:=hg
  obtain⟨its,rv,p,hz⟩:=I.tuple hq
  obtain⟨u,hu,ru⟩:=rv.get hx
  refine enumStep he hit (show s.heap.IsTuple a its.toArray from p) (x:=u) (by simpa using hu) hne fun h' ho hit' ht kp=>⟨.ref s.heap.objs.size,rfl,?_⟩
  refine wpAny_letOwnedTupleGo_enum ho fun h2 he2 sb2=>?_
  have el:e<s.heap.objs.size:=Heap.lt_size he
  have il:it<s.heap.objs.size:=by
   obtain⟨o,ho',_⟩:=hit
   exact Heap.lt_size ho'
  have t2:h2.get? s.heap.objs.size=some { cls:=.type "tuple",data:=.seq #[.int (lo+i) s.toks,u] }:=(sb2.2 _ (Nat.ne_of_gt el)).trans ht
  have hit2:h2.IsTupleIter it a (i+1):=by
   obtain⟨o,ho',r⟩:=hit'
   exact⟨o,(sb2.2 it (Ne.symm hne)).trans ho',r⟩
  have eqi:lo+(i:Int)+1=lo+((i+1:Nat):Int):=by omega
  refine⟨.ref s.heap.objs.size,upd H s.heap.objs.size (.tup [.int (lo+i),x]),?_,rfl,⟨_,x,rfl,I.hok.fresh (Nat.le_refl _),rfl,fun ys hy=>by rw[I.tuple_inj hy hq]; exact hx⟩,⟨⟨u,by rw[<- eqi]; exact he2⟩,hit2⟩,fun b hb=>?_⟩
  ·refine I.turned2 (t':=s.toks+1) (hf e (by simp)) (hf it (by simp)) (Nat.le_refl _) (fun b o n1 n2 q=>(sb2.2 b n1).trans (kp b o n1 n2 q)) ⟨⟨_,he2⟩,let ⟨o,h,_⟩:=hit2; ⟨o,h⟩⟩ ?_
   refine⟨(by show 2<=sizeLine; decide),[.int (lo+i) s.toks,u],.cons ⟨_,rfl⟩ (.cons ru .nil),⟨_,t2,rfl,_,rfl⟩⟩
  ·rw[upd_ne ?_]
   ·exact(hf b hb).1
   ·rcases List.mem_cons.mp hb with rfl | hb
    ·exact Nat.ne_of_lt el
    ·have:b=it:=by simpa using hb
     subst this
     exact Nat.ne_of_lt il
 done:=by
  intro X hP hw hK hc i pins s σ H E I hf st hg
  subst hP hw hK
  obtain⟨⟨old,he⟩,hit⟩:=st
  obtain⟨xs,hq,hx⟩:=hg
  obtain⟨its,rv,p,hz⟩:=I.tuple hq
  obtain⟨f0,f1,f2,f3,f4,f5⟩:=hf it (by simp)
  have hl:=rv.length
  exact enumEnd (I.ok.hd hc) he hit (show s.heap.IsTuple a its.toArray from p) (by simp; omega) fun h' eb=>⟨rfl,I.turned (t':=s.toks) (fun b o hb e=>eb b o hb e) f0 f1 f3 f4 f5⟩
 self:=fun A i s Q E st h=>by
  obtain⟨⟨old,he⟩,_⟩:=st
  exact wpAny_pyIter_enum he h
def iEnum (K:PySem.W.Frag) (lo:Int) (ta:TE):TI:=fun σ H R=>ta σ H fun x H1=>∃ a xs,x = .ref a/\SqT K H1 a xs/\R (Ite K lo a) H1
theorem enum_pie {tg:Expr} {elts:List Expr} {x1:Nat} {tp:Pos} {R:It->Hp->Prop} {lo:Int} {a:Addr} {E:Value->Shared->Prop} {tk:Nat} (I:Inv X pins σ H s) (q:R (Ite X.K lo a) H) :
  wpAny (model X.prog X.w) X.A (pyIter (.ref (s.heap.objs.size+1))) (PIE X pins σ (.Tuple elts x1 tp) R) E
   { s with heap:=(s.heap.push { cls:=.type "tuple_iterator",data:=.fields #[.ref a,.int 0 0] }).push { cls:=.type "enumerate",data:=.fields #[.none,.bool false,.ref s.heap.objs.size,rawInt lo,.none,.none] },toks:=tk }:=by
 have z:(s.heap.push { cls:=.type "tuple_iterator",data:=.fields #[.ref a,.int 0 0] }).objs.size=s.heap.objs.size+1:=Heap.size_push _ _
 have he:IsEnum ((s.heap.push { cls:=.type "tuple_iterator",data:=.fields #[.ref a,.int 0 0] }).push { cls:=.type "enumerate",data:=.fields #[.none,.bool false,.ref s.heap.objs.size,rawInt lo,.none,.none] }) (s.heap.objs.size+1) s.heap.objs.size lo .none:=by
  have q:=Heap.get?_push_size (s.heap.push { cls:=.type "tuple_iterator",data:=.fields #[.ref a,.int 0 0] }) (o:={ cls:=.type "enumerate",data:=.fields #[.none,.bool false,.ref s.heap.objs.size,rawInt lo,.none,.none] }) rfl
  rw[z]at q
  exact q
 have I1:Inv X pins σ H { s with heap:=(s.heap.push { cls:=.type "tuple_iterator",data:=.fields #[.ref a,.int 0 0] }).push { cls:=.type "enumerate",data:=.fields #[.none,.bool false,.ref s.heap.objs.size,rawInt lo,.none,.none] },toks:=tk }:=
  I.kept fun b o e=>Heap.get?_push_of_some _ (Heap.get?_push_of_some _ e)
 refine wpAny_pyIter_enum he ⟨s.heap.objs.size+1,[s.heap.objs.size+1,s.heap.objs.size],_,Ite X.K lo a,H,rfl,I1,turn_enum lo a _ _ (Nat.ne_of_gt (Nat.lt_succ_self _)),⟨⟨.none,by simpa using he⟩,⟨_,Heap.get?_push_of_some _ (Heap.get?_push_size _ rfl),rfl,rfl⟩⟩,fun b hb=>?_,q⟩
 rcases List.mem_cons.mp hb with rfl | hb
 ·exact I.fpOk (Nat.le_succ _) (I.hok.fresh (Nat.le_succ _))
 ·have:b=s.heap.objs.size:=by simpa using hb
  subst this
  exact I.fpOk (Nat.le_refl _) (I.hok.fresh (Nat.le_refl _))
theorem callTyKw {M:Model} {A:Around} {E:Value->Shared->Prop} {s:Shared} {pos:Pos} {T:String} {x:Sem Value} {rest:List (Bool × Sem Value)} {kws:List (Option Str × Sem Value)} {Q:Value->Shared->Prop} (h1:rest.any (·.1)=false) (h2:kws.any (·.1.isNone)=false) (h3:kws.all (·.1.isSome)=true)
  (h:wpAny M A (spliced ((false,x)::rest)) (fun vs s₁=>wpAny M A (evalAll (kws.map (·.2))) (fun ws s₂=>wpAny M A (call (.type T) vs ((kws.filterMap (·.1)).zip ws)) Q E s₂) E s₁) E s):wpAny M A (callWith pos (.type T) [] ((false,x)::rest) kws) Q E s:=by
 unfold callWith
 refine wpAny_bind (wpAny_holding (evalArgs_kwB h3 (wpAny_mono h (fun vs s1 q1=>wpAny_mono q1 (fun ws s2 q2=>wpAny_bind (wpAny_standAt ?_)) fun _ _ y=>y) fun _ _ y=>y)))
 have h4:(((false,x)::rest).any (·.1))=false:=by
  rw[List.any_cons,h1]
  rfl
 simp only[h4,h2,Bool.or_false]
 refine wpAny_bind (wpAny_pure ?_)
 exact wpAny_bind (wpAny_mono q2 (fun r s3 q3=>wpAny_bind (wpAny_holding (wpAny_point (wpAny_pure q3)))) fun _ _ y=>y)
theorem pi_enum1 {ex:Expr} {elts:List Expr} {x1 k:Nat} {tp p pos cp kp:Pos} {ta:TE} (hm:X.mg "enumerate" = none) (ha:PE X ex ta) (hg:Gl X "enumerate":=by rfl) (hs:starEach [ex] X.env=[(false,eval ex X.env)]:=by rfl) :
  PI X (.Tuple elts x1 tp) (.Call (.Name "enumerate" p) [ex] [⟨some "start",.Constant (.int 1) k cp,kp⟩] pos) (iEnum X.K 1 ta):=by
 intro pins s σ H R I h
 refine wpAny_Call_Name_kw (ld_blt I hg hm boot_enumerate ?_)
 rw[hs]
 refine callTyKw (x:=eval ex X.env) (rest:=[]) rfl rfl rfl ?_
 have ha':=pa_cons ha pa_nil hs pos pins s σ H (fun vs H1=>∃ a xs,vs=[V.ref a]/\SqT X.K H1 a xs/\R (Ite X.K 1 a) H1) I (by
  have e:(fun(x:V) (H1:Hp)=>tNil σ H1 fun xs H2=>∃ a ys,x::xs=[V.ref a]/\SqT X.K H2 a ys/\R (Ite X.K 1 a) H2)=fun x H1=>∃ a xs,x = .ref a/\SqT X.K H1 a xs/\R (Ite X.K 1 a) H1:=by
   funext x H1
   simp only[tNil,List.cons.injEq,and_true]
  show ta σ H (fun x H1=>tNil σ H1 fun xs H2=>_)
  rw[e]
  exact h)
 rw[hs]at ha'
 refine thn ha' fun us s1 ⟨vs,H1,I1,r1,q1⟩=>?_
 refine kws_cons (wpAny_Constant_int ?_)
 refine kws_nil ?_
 obtain⟨a,xs,e,hq,q⟩:=q1
 subst e
 cases r1 with
 | cons r rr=>
  cases rr
  cases (show _=Value.ref a from r)
  have I2:=I1.tok (s1.toks+1)
  obtain⟨its,rv,⟨⟨c,dd,dt,sl⟩,ho,hc1,n,hd1⟩,hz⟩:=I2.tuple hq
  dsimp only at hc1 hd1
  subst hc1 hd1
  refine typeCallKw (kw:=[("start",_)]) PySem.F.called_enumerate (enum_typeCall _ _) (enum_newCall _ _) PySem.F.entry_enumerate_new (enum_new_kw a _ n dd sl _) (fun obj=>init_kw obj _ _) (fun obj=>init_kw_meets obj _ _) ⟨ho,⟨_,Heap.get?_push_size _ rfl,rfl⟩,?_⟩
  rw[Heap.size_push]
  exact enum_pie (tg:=ex) (tk:=s1.toks+1) I2 q
end
end L2
end
section
namespace L2
open PySem PySem.Spec PyProof.Rows
section
variable {X:Cx}
def rAll (K:PySem.W.Frag):List V->Hp->VK->Prop:=fun xs H Q=>∃ (p:Addr) (bs:List Bool),xs=[.ref p]/\SqL K H p (bs.map V.bl)/\Q (.bl (bs.all id)) H
theorem bools_of {bs:List Bool}:∀ {us:List Value},Vals (bs.map V.bl) us->∀ i v,us.toArray[i]? = some v->v=Value.bool (bs.getD i false):=by
 intro us r i v hv
 have hv:us[i]? = some v:=by simpa using hv
 have hl:i<us.length:=(List.getElem?_eq_some_iff.mp hv).1
 have hn:i<bs.length:=by
  have:=r.length
  rw[List.length_map]at this
  omega
 obtain⟨u,hu,ru⟩:=r.get (i:=i) (x:=V.bl bs[i]) (by simp [hn])
 rw[hv]at hu
 cases hu
 have e:v=Value.bool bs[i]:=ru
 rw[e]
 simp [List.getD,hn]
theorem all_getD (bs:List Bool):((List.range bs.length).all fun i=>bs.getD i false)=bs.all id:=by
 rw[Bool.eq_iff_iff,List.all_eq_true,List.all_eq_true]
 constructor
 ·intro h b hb
  obtain⟨i,hi,e⟩:=List.mem_iff_getElem.mp hb
  have:=h i (List.mem_range.mpr hi)
  simp [List.getD,hi,e]at this
  simpa using this
 ·intro h i hi
  have hi:=List.mem_range.mp hi
  have:=h bs[i] (List.getElem_mem hi)
  simpa [List.getD,hi] using this
theorem call_allB (hc:X.calm=true):CallR X (.builtin "all") (rAll X.K):=by
 intro pins s σ H xs us Q I r h
 obtain⟨p,bs,rfl,hs,q⟩:=h
 cases r with
 | cons r1 r2=>
  cases r2
  cases (show _=Value.ref p from r1)
  have hh:X.A.in1.handled=none:=I.ok.hd hc
  refine call_all_walk ?_
  obtain⟨its,rv,pl,hz⟩:=I.list hs
  have hlen:its.toArray.size=bs.length:=by
   have:=rv.length
   rw[List.length_map]at this
   simp [this]
  have ne:p≠s.heap.objs.size:=by
   obtain⟨o,n,ho,_⟩:=pl
   exact Nat.ne_of_lt (Heap.lt_size ho)
  refine wpAny_pyIter_list pl.isList ⟨s.heap.objs.size,_,_,_,_,_,(fun i=>bs.getD i false),rfl,Walks.list hh s.heap.objs.size p ne its.toArray,⟨⟨_,Heap.get?_push_size _ rfl,rfl,rfl⟩,?_⟩,fun i v s' Q' E' hv hq=>?_,fun h' tk hk=>?_⟩
  ·obtain⟨o,n,ho,hc1,hd1,hd2⟩:=pl
   exact⟨o,Heap.get?_push_of_some _ ho,hc1,n,hd2⟩
  ·rw[bools_of rv i v hv]
   exact wpAny_truthy_bool hq
  ·rw[hlen,all_getD]
   refine⟨.bl _,H,I.kept (t':=tk) fun b u e=>hk b u (by simpa using Nat.ne_of_lt (Heap.lt_size e)) (Heap.get?_push_of_some _ e),rfl,q⟩
theorem rng_go {M:Model} {A:Around} {E:Value->Shared->Prop} {s:Shared} {β : Type} {hi:Nat} (f:Nat->β->Sem (ForInStep β)) (I:List Nat->β->Shared->Prop) (Q:β->Shared->Prop)
  (turn:∀ x rest b s,I (x::rest) b s->wpAny M A (f x b) (fun r s'=>match r with | .yield b'=>I rest b' s' | .done b'=>Q b' s') E s)
  (fin:∀ b s,I [] b s->Q b s) (b:β) (h:I (List.range' 0 hi) b s):wpAny M A (forIn [0:hi] b f) Q E s:=by
 rw[Std.Legacy.Range.forIn_eq_forIn_range']
 refine wpAny_forIn_list f I Q turn fin _ b ?_
 simpa [Std.Legacy.Range.size] using h
theorem tuple_index_at (l:Addr) (items:Array Value) (n:Nat) (dd:Option Addr) (sl:Array (Option Value)) (x:Value) (e:Value->Bool) (j:Nat) (hj:j<items.size) (hy:e items[j]=true) (hn:∀ i (h:i<j),e items[i]=false) :
  Meets (Builtin.«tuple.index» ⟨[.ref l,x],[]⟩) (fun A R s=>s.heap.get? l=some { cls:=.type "tuple",dict:=dd,data:=.seq items n,slots:=sl }/\(∀ y,y∈items->SeqAt.EqAt A.in1 s y x (e y))/\R (.ok (.ret (.int j s.toks))) { s with toks:=s.toks+1 }):=
 .of_wp fun prog w A R s h=>by
  obtain⟨hp,g,d,tk,os⟩:=s
  obtain⟨hl,he,h⟩:=h
  wp_walk using AutoSeq1.wpAny_loadPart' hl,rng_go _ (fun rest b s'=>b.1=none/\s'=⟨hp,g,d,tk,os⟩/\∃ i,i<=j/\rest=List.range' i (items.size - i)) _
  case turn=>
   rintro y rest b s' ⟨hb,rfl,i,hi,hr⟩
   have hlt:i<items.size:=by omega
   have e1:items.size - i=(items.size - (i+1))+1:=by omega
   rw[e1,List.range'_succ]at hr
   obtain⟨rfl,rfl⟩:=List.cons.inj hr
   have hg:items[y]? = some items[y]:=by simp [hlt]
   rw[hg]
   dsimp only
   refine wpAny_bind (he items[y] (Array.getElem_mem hlt) prog w _ _ ?_)
   by_cases hyj:y=j
   ·subst hyj
    rw[hy]
    wp_walk
    exact⟨_,rfl,h⟩
   ·rw[hn y (by omega)]
    wp_walk
    exact⟨rfl,rfl,y+1,by omega,rfl⟩
  case fin=>
   rintro ⟨b1,b2⟩ s' ⟨hb,rfl,i,hi,hr⟩
   have:(List.range' i (items.size - i)).length=0:=by rw[<- hr]; rfl
   rw[List.length_range']at this
   omega
  case h=>
   refine⟨rfl,rfl,0,Nat.zero_le _,?_⟩
   simp
def rIndex (K:PySem.W.Frag):V->List V->Hp->VK->Prop:=fun x vs H Q=>∃ (a:Addr) (ks:List Str) (k:Str) (j:Nat),x = .ref a/\vs=[.str k]/\SqT K H a (ks.map V.str)/\ks[j]? = some k/\(∀ i,i<j->ks[i]? ≠ some k)/\Q (.int j) H
theorem mt_index:MtR X "tuple.index" (rIndex X.K):=by
 intro pins s σ H x vs v us Q I rx rv h
 obtain⟨a,ks,k,j,rfl,rfl,hs,hj,hn,q⟩:=h
 cases (show v=Value.ref a from rx)
 cases rv with
 | cons r1 r2=>
  cases r2
  obtain⟨t,e⟩:=r1
  subst e
  obtain⟨its,rv,⟨⟨c,dd,dt,sl⟩,ho,hc1,n,hd1⟩,hz⟩:=I.tuple hs
  dsimp only at hc1 hd1
  subst hc1 hd1
  have hlen:its.length=ks.length:=by
   have:=rv.length
   rw[List.length_map]at this
   exact this.symm
  have hjl:j<ks.length:=(List.getElem?_eq_some_iff.mp hj).1
  have at_:∀ i (h:i<ks.length),∃ t,its[i]? = some (Value.str ks[i] t):=fun i h=>by
   obtain⟨u,hu,ru⟩:=rv.get (i:=i) (x:=V.str ks[i]) (by simp [h])
   obtain⟨t,e⟩:=ru
   exact⟨t,by rw[hu,e]⟩
  refine call_meets PySem.F.slot_tuple_index ⟨_,ho,rfl⟩ PySem.F.entry_tuple_index (PySem.F.args_tuple_index_2 _ _)
   (tuple_index_at a its.toArray n dd sl (.str k t) (fun v=>match v with | .str y _=>y == k | _=>false) j (by simpa [hlen] using hjl) ?_ ?_) ⟨ho,fun y hy=>?_,?_⟩
  ·obtain⟨t',e⟩:=at_ j hjl
   have e2:its.toArray[j]'(by simpa [hlen] using hjl)=Value.str ks[j] t':=by
    have:=List.getElem?_eq_some_iff.mp e
    simpa using this.2
   rw[e2]
   have:ks[j]=k:=by
    have:=List.getElem?_eq_some_iff.mp hj
    exact this.2
   simp [this]
  ·intro i hi
   have hil:i<ks.length:=by omega
   obtain⟨t',e⟩:=at_ i hil
   have e2:its.toArray[i]'(by simp [hlen]; omega)=Value.str ks[i] t':=by
    have:=List.getElem?_eq_some_iff.mp e
    simpa using this.2
   rw[e2]
   have ne:ks[i]≠k:=fun z=>hn i hi (by rw[List.getElem?_eq_getElem hil,z])
   simpa using ne
  ·obtain⟨i,hi,e⟩:=List.mem_iff_getElem.mp (show y∈its by simpa using hy)
   obtain⟨t',e'⟩:=at_ i (by omega)
   rw[List.getElem?_eq_getElem hi,e]at e'
   cases e'
   exact SeqAt.EqAt.str_str _ _ _ _
  ·exact⟨.int j,H,I.tok _,⟨_,rfl⟩,q⟩
end
end L2
end
section
namespace L2
open PySem PySem.Spec PyProof.Rows
section
variable {X:Cx}
end
end L2
end
section
namespace L2
open PySem PySem.Spec PyProof.Rows
structure Src (J:It) (H:Hp) (n:Nat) (Y:Nat->V->Hp->Prop):Prop where
 go:∀ i H',i<n->Same H H'->J.go i H'
 yld:∀ i H' x H'',i<n->Same H H'->J.yld i H' x H''->Same H' H''/\Y i x H''
 stop:∀ H',Same H H'->J.stop n H'
section
variable {K:PySem.W.Frag} {H:Hp} {a:Addr} {xs:List V}
theorem src_list (h:SqL K H a xs):Src (Itl K a) H xs.length (fun i x _=>xs[i]? = some x) where
 go:=fun i H' hi s=>⟨xs,xs[i],s.seq h,by simp [hi]⟩
 yld:=fun i H' x H'' hi s y=>⟨by rw[y.1]; exact Same.refl _,y.2 xs (s.seq h)⟩
 stop:=fun H' s=>⟨xs,s.seq h,Nat.le_refl _⟩
theorem src_tup (h:SqT K H a xs):Src (Itt K a) H xs.length (fun i x _=>xs[i]? = some x) where
 go:=fun i H' hi s=>⟨xs,xs[i],s.seqT h,by simp [hi]⟩
 yld:=fun i H' x H'' hi s y=>⟨by rw[y.1]; exact Same.refl _,y.2 xs (s.seqT h)⟩
 stop:=fun H' s=>⟨xs,s.seqT h,Nat.le_refl _⟩
theorem src_range (lo:Int) (n:Nat):Src (Itr lo n) H n (fun i x _=>x = .int (lo+i)) where
 go:=fun i H' hi s=>hi
 yld:=fun i H' x H'' hi s y=>⟨by rw[y.1]; exact Same.refl _,y.2⟩
 stop:=fun H' s=>Nat.le_refl _
theorem src_enum (lo:Int) (h:SqT K H a xs):Src (Ite K lo a) H xs.length (fun i x H'=>∃ p v,x = .ref p/\H' p=some (.tup [.int (lo+i),v])/\xs[i]? = some v) where
 go:=fun i H' hi s=>⟨xs,xs[i],s.seqT h,by simp [hi]⟩
 yld:=fun i H' x H'' hi s ⟨p,v,e1,e2,e3,e4⟩=>⟨by rw[e3]; exact same_upd e2,p,v,e1,by rw[e3]; exact upd_same,e4 xs (s.seqT h)⟩
 stop:=fun H' s=>⟨xs,s.seqT h,Nat.le_refl _⟩
end
def SameN (H H':Hp):Prop:=∀ b o,H b=some o->(∀ zs,o ≠ .lst zs)->H' b=some o
theorem Same.n {H H':Hp} (s:Same H H'):SameN H H':=fun b o e _=>s b o e
theorem sameN_lst {H:Hp} {D:Addr} {ys zs:List V} (h:H D=some (.lst ys)):SameN H (upd H D (.lst zs)):=fun b o e n=>by
 rw[upd_ne (fun z=>by rw[z,h]at e; exact n ys (Option.some.inj e).symm)]
 exact e
theorem comp_src {J:It} {H:Hp} {n:Nat} {Y:Nat->V->Hp->Prop} {T:List Str} {F:List (Str × Nat)} {σ : St} {g:TG} {te:TE} {Q:VK} (S:Src J H n Y) (hn:n<=sizeLine) (R:Nat->V->Hp->Prop) (stab:∀ i y H1 H2,SameN H1 H2->R i y H1->R i y H2) (Z:St->Prop) (h0:Z (compIn T F σ))
  (step:∀ i x σc H3,i<n->Z σc->Same H H3->Y i x H3->∀ (Q':St->V->Hp->Prop),(∀ σ4 y H6,Z σ4->Same H3 H6->R i y H6->Q' σ4 y H6)->g x σc H3 fun σ4 H4=>te σ4 H4 fun y H6=>Q' σ4 y H6)
  (fin:∀ D ys H',H D=none->Same H H'->H' D=some (.lst ys)->ys.length=n->(∀ i y,ys[i]? = some y->R i y H')->Q (.ref D) H') :
  compBody T F g tTrue te σ Q J H:=by
 intro D hD
 refine⟨fun i m ys σc H2=>m=n - i/\i<=n/\Z σc/\Same H H2/\H2 D=some (.lst ys)/\ys.length=i/\∀ j y,ys[j]? = some y->R j y H2,⟨n,rfl,Nat.zero_le _,h0,same_upd hD,upd_same,rfl,fun j y e=>by simp at e⟩,?_⟩
 rintro i m ys σc H2 ⟨rfl,hi,hz,hs,hd,hl,hr⟩
 refine⟨hd,?_⟩
 by_cases hlt:i<n
 ·refine .inr ⟨S.go i H2 hlt hs,by omega,fun x H3 y=>?_⟩
  obtain⟨s3,y3⟩:=S.yld i H2 x H3 hlt hs y
  simp only[tTrue,if_true]
  refine step i x σc H3 hlt hz (hs.trans s3) y3 (fun σ4 y H6=>H6 D=some (.lst ys)/\∃ m',m'<n - i/\m'=n - (i+1)/\i+1<=n/\Z σ4/\Same H (upd H6 D (.lst (ys++[y])))/\(upd H6 D (.lst (ys++[y]))) D=some (.lst (ys++[y]))/\(ys++[y]).length=i+1/\∀ j z,(ys++[y])[j]? = some z->R j z (upd H6 D (.lst (ys++[y])))) fun σ4 y H6 z4 s6 r6=>?_
  have d6:H6 D=some (.lst ys):=s6 _ _ (s3 _ _ hd)
  have sU:∀ {H1:Hp},Same H1 H6->H1 D=none->Same H1 (upd H6 D (.lst (ys++[y]))):=fun {H1} s b=>fun c u e=>by
   rw[upd_ne (ne_of_none e b)]
   exact s c u e
  refine⟨d6,n - (i+1),by omega,rfl,hlt,z4,sU ((hs.trans s3).trans s6) hD,upd_same,by rw[List.length_append,hl]; rfl,fun j z e=>?_⟩
  have up:=sameN_lst (zs:=ys++[y]) d6
  by_cases hj:j<ys.length
  ·rw[List.getElem?_append_left hj]at e
   exact stab _ _ _ _ up (stab _ _ _ _ (s3.trans s6).n (hr j z e))
  ·have hj2:j=ys.length:=by
    have:=(List.getElem?_eq_some_iff.mp e).1
    rw[List.length_append]at this
    simp at this
    omega
   subst hj2
   rw[List.getElem?_append_right (Nat.le_refl _)]at e
   simp at e
   subst e
   rw[hl]
   exact stab _ _ _ _ up r6
 ·have hin:i=n:=by omega
  subst hin
  exact .inl ⟨S.stop H2 hs,fin D ys H2 hD hs hd hl hr⟩
mutual
def tupD:PyData->Bool
 | .none | .bool _ | .int _ | .str _=>true
 | .tuple ds=>tupDs ds
 | _=>false
def tupDs:List PyData->Bool
 | []=>true
 | d::ds=>tupD d && tupDs ds
end
mutual
theorem Den.n {H H':Hp} (e:SameN H H'):∀ {d:PyData} {v:V},tupD d=true->Den H d v->Den H' d v
 | .none,v,t,h=>by simp only[Den]at h ⊢; exact h
 | .bool b,v,t,h=>by simp only[Den]at h ⊢; exact h
 | .int i,v,t,h=>by simp only[Den]at h ⊢; exact h
 | .str x,v,t,h=>by simp only[Den]at h ⊢; exact h
 | .tuple ds,v,t,h=>by
  simp only[Den]at h ⊢
  simp only[tupD]at t
  obtain⟨a,xs,e1,h1,h2⟩:=h
  exact⟨a,xs,e1,e _ _ h1 (fun zs z=>by cases z),Dens.n e t h2⟩
 | .list ds,v,t,h=>by simp [tupD]at t
 | .dict _,v,t,h=>by simp only[Den]at h
theorem Dens.n {H H':Hp} (e:SameN H H'):∀ {ds:List PyData} {xs:List V},tupDs ds=true->Dens H ds xs->Dens H' ds xs
 | [],xs,t,h=>by simp only[Dens]at h ⊢; exact h
 | d::ds,xs,t,h=>by
  simp only[Dens]at h ⊢
  simp only[tupDs,Bool.and_eq_true]at t
  obtain⟨x,r,e1,h1,h2⟩:=h
  exact⟨x,r,e1,Den.n e t.1 h1,Dens.n e t.2 h2⟩
end
def tyD:PyData->Value
 | .none=>.type "NoneType"
 | .bool _=>.type "bool"
 | .int _=>.type "int"
 | .str _=>.type "str"
 | .tuple _=>.type "tuple"
 | .list _=>.type "list"
 | .dict _=>.type "dict"
theorem Den.ty {K:PySem.W.Frag} {H:Hp}:∀ {d:PyData} {v:V},Den H d v->TyOf K H v (tyD d)
 | .none,v,h=>by simp only[Den]at h; subst h; exact .non
 | .bool b,v,h=>by simp only[Den]at h; subst h; exact .bl b
 | .int i,v,h=>by simp only[Den]at h; subst h; exact .int i
 | .str x,v,h=>by simp only[Den]at h; subst h; exact .str x
 | .tuple ds,v,h=>by
  simp only[Den]at h
  obtain⟨a,xs,e1,h1,h2⟩:=h
  subst e1
  exact .tup h1
 | .list ds,v,h=>by
  simp only[Den]at h
  obtain⟨a,xs,e1,h1,h2⟩:=h
  subst e1
  exact .lst h1
 | .dict _,v,h=>by simp only[Den]at h
theorem dens_ints {H:Hp}:∀ {ns:List Int} {xs:List V},Dens H (ns.map PyData.int) xs ↔ xs=ns.map V.int
 | [],xs=>by simp [Dens]
 | n::ns,xs=>by
  simp only[List.map_cons,Dens,Den]
  constructor
  ·rintro ⟨x,r,e1,e2,h⟩
   subst e2
   rw[e1,dens_ints.mp h]
  ·intro h
   exact⟨_,_,h,rfl,dens_ints.mpr rfl⟩
theorem Dens.length {H:Hp}:∀ {ds:List PyData} {xs:List V},Dens H ds xs->xs.length=ds.length
 | [],xs,h=>by simp only[Dens]at h; subst h; rfl
 | d::ds,xs,h=>by
  simp only[Dens]at h
  obtain⟨x,r,e1,_,h2⟩:=h
  rw[e1,List.length_cons,List.length_cons,Dens.length h2]
theorem Dens.get {H:Hp}:∀ {ds:List PyData} {xs:List V} {i:Nat} {x:V},Dens H ds xs->xs[i]? = some x->∃ d,ds[i]? = some d/\Den H d x
 | [],xs,i,x,h,e=>by simp only[Dens]at h; subst h; simp at e
 | d::ds,xs,0,x,h,e=>by
  simp only[Dens]at h
  obtain⟨y,r,e1,h1,_⟩:=h
  subst e1
  simp at e
  subst e
  exact⟨d,rfl,h1⟩
 | d::ds,xs,i+1,x,h,e=>by
  simp only[Dens]at h
  obtain⟨y,r,e1,_,h2⟩:=h
  subst e1
  simp at e
  obtain⟨d',e',h'⟩:=Dens.get h2 e
  exact⟨d',by simpa using e',h'⟩
theorem kit_bool {K:PySem.W.Frag} (d:PyData):PySem.W.kitOne K (tyD d) (.type "bool")=some (match d with | .bool _=>true | _=>false):=by
 cases d <;> rfl
theorem kit_int {K:PySem.W.Frag} (d:PyData):PySem.W.kitOne K (tyD d) (.type "int")=some (match d with | .bool _=>true | .int _=>true | _=>false):=by
 cases d <;> rfl
theorem kit_str {K:PySem.W.Frag} (d:PyData):PySem.W.kitOne K (tyD d) (.type "str")=some (match d with | .str _=>true | _=>false):=by
 cases d <;> rfl
theorem kit_tuple {K:PySem.W.Frag} (d:PyData):PySem.W.kitOne K (tyD d) (.type "tuple")=some (match d with | .tuple _=>true | _=>false):=by
 cases d <;> rfl
end L2
end
section
namespace L2
open PySem PySem.Spec PyProof.Rows
section
variable {X:Cx}
theorem ix_listK (K:PySem.W.Frag) (hK:X.K=K:=by rfl):IxR X (rIxL K):=by
 subst hK
 exact ix_list
theorem ix_tupK (K:PySem.W.Frag) (hK:X.K=K:=by rfl):IxR X (rIxT K):=by
 subst hK
 exact ix_tup
theorem op_notInK (K:PySem.W.Frag) (hK:X.K=K:=by rfl):OpR X (compareOp .NotIn) (rIn K true):=by
 subst hK
 exact op_notIn_seq
def rLen (K:PySem.W.Frag):List V->Hp->VK->Prop:=fun xs H Q=>∃ p ys,xs=[.ref p]/\(SqL K H p ys\/SqT K H p ys)/\Q (.int ys.length) H
theorem call_lenK (K:PySem.W.Frag) (hK:X.K=K:=by rfl):CallR X (.builtin "len") (rLen K):=by
 subst hK
 exact call_len_seq
theorem call_isiK (K:PySem.W.Frag) (hK:X.K=K:=by rfl):CallR X (.builtin "isinstance") (rIsi K):=by
 subst hK
 exact call_isi
theorem call_sumK (K:PySem.W.Frag) (hc:X.calm=true:=by rfl) (hK:X.K=K:=by rfl):CallR X (.builtin "sum") (rSum K):=by
 subst hK
 exact call_sumI hc
theorem call_allK (K:PySem.W.Frag) (hc:X.calm=true:=by rfl) (hK:X.K=K:=by rfl):CallR X (.builtin "all") (rAll K):=by
 subst hK
 exact call_allB hc
def rTupleOf (K:PySem.W.Frag):List V->Hp->VK->Prop:=fun xs H Q=>∃ p ys,xs=[.ref p]/\((SqL K H p ys/\∀ l,H l=none->Q (.ref l) (upd H l (.tup ys)))\/(SqT K H p ys/\Q (.ref p) H))
theorem call_tupleK (K:PySem.W.Frag) (hK:X.K=K:=by rfl):CallR X (.type "tuple") (rTupleOf K):=by
 subst hK
 exact call_tuple_of
theorem mt_indexK (K:PySem.W.Frag) (hK:X.K=K:=by rfl):MtR X "tuple.index" (rIndex K):=by
 subst hK
 exact mt_index
theorem sl_listK (K:PySem.W.Frag) (hK:X.K=K:=by rfl):SlR X (rSlL K):=by
 subst hK
 exact sl_list
theorem pg_tupK (K:PySem.W.Frag) {es:List Expr} {k:Nat} {t:TGs} {n:Nat} {pos:Pos} (h:PGs X es t) (hc:X.calm=true:=by rfl) (hK:X.K=K:=by rfl) (hn:(assignEach es X.env).length=n:=by rfl) (hst:(assignEach es X.env).findIdx? (·.1)=none:=by rfl):PG X (.Tuple es k pos) (gTup K n t):=by
 subst hK
 exact pg_tup hc h hn hst
theorem pi_listK (K:PySem.W.Frag) {tg l:Expr} {tl:TE} (hl:PE X l tl) (hK:X.K=K:=by rfl):PI X tg l (iList K tl):=by
 subst hK
 exact pi_list hl
theorem pi_tupK (K:PySem.W.Frag) {tg l:Expr} {tl:TE} (hl:PE X l tl) (hK:X.K=K:=by rfl):PI X tg l (iTup K tl):=by
 subst hK
 exact pi_tup hl
theorem pi_enum1K (K:PySem.W.Frag) {ex:Expr} {elts:List Expr} {x1 k:Nat} {tp p pos cp kp:Pos} {ta:TE} (hm:X.mg "enumerate" = none) (ha:PE X ex ta) (hg:Gl X "enumerate":=by rfl) (hs:starEach [ex] X.env=[(false,eval ex X.env)]:=by rfl) (hK:X.K=K:=by rfl) :
  PI X (.Tuple elts x1 tp) (.Call (.Name "enumerate" p) [ex] [⟨some "start",.Constant (.int 1) k cp,kp⟩] pos) (iEnum K 1 ta):=by
 subst hK
 exact pi_enum1 hm ha hg hs
end
end L2
end
section
namespace L2
open PySem PySem.Spec PyProof.Rows
def TupM (K:PySem.W.Frag) (H:Hp) (x:V):Prop:=∃ p,x = .ref p/\((∃ o u,H p=some (.frz o u)/\o.cls = .type "tuple"/\o.dict=none)\/∃ o,K.lookup p=some o/\o.cls = .type "tuple"/\o.dict=none)
def tBMT (K:PySem.W.Frag) (r:V->List V->Hp->VK->Prop) (to:TE) (t:TA):TE:=fun σ H Q=>to σ H fun x H1=>TupM K H1 x/\t σ H1 fun xs H2=>r x xs H2 Q
section
variable {X:Cx} {o e:Expr} {es:List Expr} {t:TA} {to:TE} {pos apos cpos:Pos} {name:Str} {id:String} {r:V->List V->Hp->VK->Prop}
theorem pe_bmT (K:PySem.W.Frag) (slot:Slot "tuple" name id) (hty:typeOf (.builtin id)=pure (.type "method_descriptor")) (hm:MtR X id r) (ho:PE X o to) (ha:PA X (e::es) t) (hK:X.K=K:=by rfl)
  (hbase:attributeBase o name X.env (eval o X.env)=eval o X.env:=by rfl)
  (hfew:((backTo cpos (starEach (e::es) X.env)).all (fun x=>!x.1) && (backToKw cpos (keywordEach [] X.env)).all (fun x=>x.1.isSome)
   && decide ((e::es).length+([]:List Keyword).length+(if ([]:List Keyword).isEmpty then 0 else 1)<30))=true:=by rfl)
  (hline:(apos.endLine == cpos.line)=true:=by rfl) (hs:starEach (e::es) X.env=(false,eval e X.env)::starEach es X.env:=by rfl) (hplain:(backTo cpos (starEach es X.env)).any (·.1)=false:=by rfl) :
  PE X (.Call (.Attribute o name apos) (e::es) [] cpos) (tBMT K r to t):=by
 subst hK
 intro pins s σ H Q I h
 refine wpAny_Call_method_late hbase hfew hline rfl (thn (ho pins s σ H _ I h) fun v s1 ⟨x,H1,I1,r1,ty,q1⟩=>?_)
 obtain⟨p,ex,ty⟩:=ty
 subst ex
 cases (show v=Value.ref p from r1)
 have hob:∃ ob,s1.heap.get? p=some ob/\ob.cls = .type "tuple"/\ob.dict=none:=by
  rcases ty with ⟨ob,u,z1,z2,z3⟩ | ⟨ob,z1,z2,z3⟩
  ·obtain⟨g,_⟩:=I1.hok p _ z1
   exact⟨ob,g,z2,z3⟩
  ·exact⟨ob,I1.kIn _ _ z1,z2,z3⟩
 obtain⟨ob,g1,g2,g3⟩:=hob
 refine⟨"tuple",id,PySem.F.plainAttrs_tuple,slot,hty,⟨ob,g1,g2⟩,(fun b eb=>by cases eb; exact⟨ob,g1,g3⟩),?_⟩
 have hA:=ha cpos pins s1 σ H1 _ I1 q1
 rw[hs]at hA ⊢
 refine Calls.callWith_builtin (by show (false || (backTo cpos (starEach es X.env)).any (·.1))=false; rw[hplain] <;> rfl) (Calls.evalArgs_plain ?_)
 exact thn hA fun us s2 ⟨vs,H2,I2,r2,q2⟩=>hm pins s2 σ H2 (.ref p) vs (.ref p) us Q I2 rfl r2 q2
end
end L2
end
section
namespace L2
open PySem PySem.Spec PyProof.Rows
def PEd (te:TE) (d:PyData):Prop:=∀ (σ : St) (H:Hp) (Q:VK),(∀ v H',Same H H'->Den H' d v->Q v H')->te σ H Q
theorem ed_int {i:Int}:PEd (tC (.int i)) (.int i):=fun _ H _ q=>q _ H (Same.refl H) (by simp only[Den])
theorem Dens.app {H:Hp}:∀ {d1 d2:List PyData} {x1 x2:List V},Dens H d1 x1->Dens H d2 x2->Dens H (d1++d2) (x1++x2)
 | [],d2,x1,x2,h1,h2=>by
  simp only[Dens]at h1
  subst h1
  exact h2
 | d::d1,d2,x1,x2,h1,h2=>by
  simp only[Dens]at h1
  obtain⟨x,r,e,k1,k2⟩:=h1
  subst e
  show Dens H (d::(d1++d2)) (x::(r++x2))
  simp only[Dens]
  exact⟨x,_,rfl,k1,k2.app h2⟩
theorem atI_pos {α : Type} {xs:List α} {i:Int} {v:α} (h:0<=i) (e:xs[i.toNat]? = some v):atI xs i=some v:=by
 obtain⟨j,rfl⟩:=Int.eq_ofNat_of_zero_le h
 exact atI_nat (by simpa using e)
theorem eqv_ints (ns ms:List Int):PyData.eqv (.tuple (ns.map .int)) (.tuple (ms.map .int))=decide (ns=ms):=by
 show PyData.eqvAll _ _=_
 exact PySem.W.ked_eqvAll ns ms
theorem lay_ints:∀ ns:List Int,PyData.canLayAll0 (ns.map .int)=true
 | []=>rfl
 | n::ns=>by
  show (true && _)=true
  rw[Bool.true_and]
  exact lay_ints ns
theorem depth_ints:∀ ns:List Int,PyData.depthAll (ns.map .int)=0
 | []=>rfl
 | n::ns=>by
  show max 0 (PyData.depthAll (ns.map .int))=0
  rw[depth_ints ns]
  rfl
theorem shaped_ints (ns:List Int):SeqAt.shaped (.tuple (ns.map .int))=true:=by
 unfold SeqAt.shaped
 have h1:PyData.canLay0 (.tuple (ns.map .int))=true:=lay_ints ns
 have h2:PyData.depth (.tuple (ns.map .int))=1:=by
  show PyData.depthAll (ns.map .int)+1=1
  rw[depth_ints]
 rw[h1,h2]
 rfl
end L2
end
section
namespace L2
open PySem PySem.Spec PyProof.Rows
section
variable {X:Cx} {es:List Expr} {te:TE} {t:TA}
theorem pa_Constant {v:Const} {k:Nat} {p:Pos} (ha:PE X (.Constant v k p) te) (hr:PA X es t):PA X (.Constant v k p::es) (tCons te t):=pa_cons ha hr rfl
theorem pa_Name {x:Str} {p:Pos} (ha:PE X (.Name x p) te) (hr:PA X es t):PA X (.Name x p::es) (tCons te t):=pa_cons ha hr rfl
theorem pa_Tuple {l:List Expr} {k:Nat} {p:Pos} (ha:PE X (.Tuple l k p) te) (hr:PA X es t):PA X (.Tuple l k p::es) (tCons te t):=pa_cons ha hr rfl
theorem pa_List {l:List Expr} {p:Pos} (ha:PE X (.List l p) te) (hr:PA X es t):PA X (.List l p::es) (tCons te t):=pa_cons ha hr rfl
theorem pa_BinOp {a:Expr} {o:Operator} {b:Expr} {p:Pos} (ha:PE X (.BinOp a o b p) te) (hr:PA X es t):PA X (.BinOp a o b p::es) (tCons te t):=pa_cons ha hr rfl
theorem pa_Call {f:Expr} {as:List Expr} {kw:List Keyword} {p:Pos} (ha:PE X (.Call f as kw p) te) (hr:PA X es t):PA X (.Call f as kw p::es) (tCons te t):=pa_cons ha hr rfl
theorem pa_Subscript {a b:Expr} {p:Pos} (ha:PE X (.Subscript a b p) te) (hr:PA X es t):PA X (.Subscript a b p::es) (tCons te t):=pa_cons ha hr rfl
theorem pa_Attribute {a:Expr} {x:Str} {p:Pos} (ha:PE X (.Attribute a x p) te) (hr:PA X es t):PA X (.Attribute a x p::es) (tCons te t):=pa_cons ha hr rfl
theorem pa_ListComp {a:Expr} {gs:List Comprehension} {sc:Scope} {p:Pos} (ha:PE X (.ListComp a gs sc p) te) (hr:PA X es t):PA X (.ListComp a gs sc p::es) (tCons te t):=pa_cons ha hr rfl
end
end L2
end
section
namespace HT
open PySem PySem.Spec PyProof.Rows
section
variable {prog:Program} {w:World} {A:Around} {E:Value->Shared->Prop} {s:Shared}
theorem getItem_tuple_whole {t sl:Addr} {items:Array Value} {vl vu:Value} {lo hi:Option Int} {Q:Value->Shared->Prop} (ht:IsTup s.heap t items) (hs:s.heap.IsSliceOf sl vl vu .none) (pl:IsPart vl lo) (pu:IsPart vu hi)
  (hw:sIx items.size 0 lo=0/\sIx items.size items.size hi=items.size) (h:Q (.ref t) s):wpAny (model prog w) A (getItem (.ref t) (.ref sl)) Q E s:=by
 obtain⟨os,hos,hcs,hds⟩:=id hs
 have hTs:s.TypeIs (.ref sl) "slice":=⟨os,hos,hcs⟩
 unfold getItem
 try with_reducible refine wpAny_holding ?_
 first | refine wpAny_bind (wpAny_pure ?_) | skip
 refine wpAny_bind (wpAny_sequenceKey ht.typeIs (by decide) ?_)
 refine wpAny_bind (wpAny_callSpecial?_slot (name:=Str.ofString "__getitem__") ht.typeIs PyProof.Rows.slot_tuple_getitem
  (wpAny_call_entry PyProof.Rows.slot_tuple_getitem ht.typeIs entry_tuple_getitem ?_ (args_tuple_getitem _ _)))
 show wpAny _ _ (Builtin.Tuple.tupleItemsOf (.ref t) >>= _) _ _ s
 refine wpAny_bind (tupleItemsOf_ ht ?_)
 refine wpAny_bind (wpAny_typeOf hTs ?_)
 rw[if_pos (by decide)]
 refine wpAny_bind (sliceApplied_gen hs pl pu ?_)
 have hyes:(((sIx items.size 0 lo:Nat):Int) == 0 && (1:Int) == 1 && (sIx items.size items.size hi - sIx items.size 0 lo) == items.size)=true:=by
  rw[hw.1,hw.2]
  simp
 show wpAny _ _ (if (((sIx items.size 0 lo:Nat):Int) == 0 && (1:Int) == 1 && (sIx items.size items.size hi - sIx items.size 0 lo) == items.size)=true then _ else _) _ _ s
 rw[if_pos hyes]
 refine wpAny_bind ?_
 unfold Builtin.Tuple.tupleIsExact
 refine wpAny_bind (wpAny_typeOf ht.typeIs (wpAny_pure ?_))
 rw[if_pos (by decide)]
 refine wpAny_bind (wpAny_rule ?_)
 exact wpAny_pure ⟨_,rfl,wpAny_pure h⟩
end
end HT
namespace L2
open PySem PySem.Spec PyProof.Rows
section
variable {X:Cx}
def rSlTA (K:PySem.W.Frag):V->Option Int->Option Int->Hp->VK->Prop:=fun x lo hi H Q=>∃ a xs,x = .ref a/\SqT K H a xs/\
 ((HT.sIx xs.length 0 lo=0/\HT.sIx xs.length xs.length hi=xs.length)->Q (.ref a) H)/\(¬ (HT.sIx xs.length 0 lo=0/\HT.sIx xs.length xs.length hi=xs.length)->∀ p,H p=none->Q (.ref p) (upd H p (.tup (cutV xs lo hi))))
theorem sl_tupAll:SlR X (rSlTA X.K):=by
 intro pins s σ H x v vl vu lo hi sl Q I rx hs pl pu h
 obtain⟨a,xs,rfl,hx,q1,q2⟩:=h
 by_cases hw:HT.sIx xs.length 0 lo=0/\HT.sIx xs.length xs.length hi=xs.length
 ·cases rx
  obtain⟨its,r,ht,hz⟩:=I.tuple hx
  have hlen:its.toArray.size=xs.length:=by rw[List.size_toArray]; exact r.length.symm
  refine⟨"tuple",_,PyProof.Rows.slot_tuple_getitem.lookup,ht.typeIs,?_⟩
  exact HT.getItem_tuple_whole ht hs pl pu (by rw[hlen]; exact hw) ⟨.ref a,H,I,rfl,q1 hw⟩
 ·exact sl_tup pins s σ H (.ref a) v vl vu lo hi sl Q I rx hs pl pu ⟨a,xs,rfl,hx,hw,q2 hw⟩
theorem sl_tupK (K:PySem.W.Frag) (hK:X.K=K:=by rfl):SlR X (rSlTA K):=by
 subst hK
 exact sl_tupAll
end
end L2
end
section
namespace L2
open PySem PySem.Spec PyProof.Rows
theorem for_src0 {J:It} {H0 H:Hp} {n:Nat} {Y:Nat->V->Hp->Prop} {g:TG} {tb:TS} {D:Ends} {σ : St} (S:Src J H0 n Y) (Pv:Nat->St->Hp->Prop) (h0:Pv 0 σ H) (keep:∀ i σ H',Pv i σ H'->Same H0 H')
  (step:∀ i x σ H1 H2,i<n->Pv i σ H1->Same H1 H2->Y i x H2->g x σ H2 fun σ2 H3=>tb { D with nx:=Pv (i+1),ct:=Pv (i+1),bk:=D.nx } σ2 H3) (fin:∀ σ H',Pv n σ H'->D.nx σ H') :
  ∃ W:Nat->Nat->St->Hp->Prop,(∃ m,W 0 m σ H)/\∀ i m σ H,W i m σ H->
   (J.stop i H/\D.nx σ H)\/(J.go i H/\∃ N:St->Hp->Prop,(∀ σ' H',N σ' H'->∃ m',m'<m/\W (i+1) m' σ' H')/\∀ x H',J.yld i H x H'->g x σ H' fun σ2 H2=>tb { D with nx:=N,ct:=N,bk:=D.nx } σ2 H2):=by
 refine⟨fun i m σ H'=>m=n - i/\i<=n/\Pv i σ H',⟨n,rfl,Nat.zero_le _,h0⟩,?_⟩
 rintro i m σ H1 ⟨rfl,hi,p⟩
 have s1:=keep i σ H1 p
 by_cases hlt:i<n
 ·refine .inr ⟨S.go i H1 hlt s1,Pv (i+1),fun σ' H' p'=>⟨n - (i+1),by omega,rfl,hlt,p'⟩,fun x H' y=>?_⟩
  obtain⟨s2,y2⟩:=S.yld i H1 x H' hlt s1 y
  exact step i x σ H1 H' hlt p s2 y2
 ·have hin:i=n:=by omega
  subst hin
  exact .inl ⟨S.stop H1 s1,fin σ H1 p⟩
theorem comp_flt {J:It} {H:Hp} {n:Nat} {Y:Nat->V->Hp->Prop} {T:List Str} {F:List (Str × Nat)} {σ : St} {g:TG} {tc:TT} {te:TE} {Q:VK} (S:Src J H n Y) (hn:n<=sizeLine) (t:Nat->Bool) (f:Nat->V) (Z:St->Prop) (h0:Z (compIn T F σ))
  (step:∀ i x σc H3,i<n->Z σc->Same H H3->Y i x H3->∀ (Q1:Hp->Prop) (Q2:St->V->Hp->Prop) (Q3:St->Hp->Prop),(∀ σ4,Z σ4->t i=true->Q2 σ4 (f i) H3)->(∀ σ4,Z σ4->t i=false->Q3 σ4 H3)->
   g x σc H3 fun σ4 H4=>tc σ4 H4 fun b H5=>if b=true then te σ4 H5 fun y H6=>Q2 σ4 y H6 else Q3 σ4 H5)
  (fin:∀ D H',H D=none->Same H H'->H' D=some (.lst (((List.range n).filter t).map f))->Q (.ref D) H') :
  compBody T F g tc te σ Q J H:=by
 intro D hD
 refine⟨fun i m ys σc H2=>m=n - i/\i<=n/\Z σc/\Same H H2/\H2 D=some (.lst ys)/\ys=((List.range i).filter t).map f,⟨n,rfl,Nat.zero_le _,h0,same_upd hD,upd_same,rfl⟩,?_⟩
 rintro i m ys σc H2 ⟨rfl,hi,hz,hs,hd,hy⟩
 refine⟨hd,?_⟩
 by_cases hlt:i<n
 ·refine .inr ⟨S.go i H2 hlt hs,?_,fun x H3 y=>?_⟩
  ·rw[hy,List.length_map]
   have:=List.length_filter_le t (List.range i)
   rw[List.length_range]at this
   omega
  obtain⟨s3,y3⟩:=S.yld i H2 x H3 hlt hs y
  have d3:H3 D=some (.lst ys):=s3 _ _ hd
  refine step i x σc H3 hlt hz (hs.trans s3) y3 (fun _=>True) (fun σ4 y H6=>H6 D=some (.lst ys)/\∃ m',m'<n - i/\m'=n - (i+1)/\i+1<=n/\Z σ4/\Same H (upd H6 D (.lst (ys++[y])))/\(upd H6 D (.lst (ys++[y]))) D=some (.lst (ys++[y]))/\(ys++[y])=((List.range (i+1)).filter t).map f)
   (fun σ4 H5=>∃ m',m'<n - i/\m'=n - (i+1)/\i+1<=n/\Z σ4/\Same H H5/\H5 D=some (.lst ys)/\ys=((List.range (i+1)).filter t).map f) (fun σ4 z4 ht=>?_) fun σ4 z4 ht=>?_
  ·refine⟨d3,n - (i+1),by omega,rfl,hlt,z4,fun c u e=>?_,upd_same,?_⟩
   ·rw[upd_ne (ne_of_none e hD)]
    exact(hs.trans s3) c u e
   ·rw[List.range_succ,List.filter_append,List.map_append,<- hy]
    simp [ht]
  ·refine⟨n - (i+1),by omega,rfl,hlt,z4,hs.trans s3,d3,?_⟩
   rw[List.range_succ,List.filter_append,List.map_append,<- hy]
   simp [ht]
 ·have hin:i=n:=by omega
  subst hin
  exact .inl ⟨S.stop H2 hs,fin D H2 hD hs (by rw[hd,hy])⟩
end L2
end
section
namespace L2
open PySem PySem.Spec PyProof.Rows
section
variable {X:Cx} {pins:List (Addr × Obj)} {σ : St} {H:Hp} {s:Shared}
end
section
variable {K:PySem.W.Frag} {H:Hp} {a:Addr} {xs:List V}
end
end L2
end
section
namespace L2
open PySem PySem.Spec PyProof.Rows
theorem sorted_check (a:Value):checkBuiltinCall "sorted" ⟨[a],[]⟩=pure ():=by kernel_rfl
section
variable {X:Cx}
theorem keys_ints {prog:Program} {w:World} {kvs:List (Key × Value)} {ns:List Int} (hk:kvs.map (·.1)=ns.map Sum.inl):∀ {acc:List Value},acc.length=kvs.length->(∀ (j:Nat) (v:Value),acc[j]? = some v->∃ k x,kvs[j]? = some (k,x)/\(mixKind prog w).is k v=true)->IntsAre acc ns:=by
 induction kvs generalizing ns with
 | nil=>
  intro acc hl _
  cases ns with
  | nil=>
   cases acc with
   | nil=>exact .nil
   | cons _ _=>simp at hl
  | cons _ _=>simp at hk
 | cons kv kvs ih=>
  intro acc hl h
  cases ns with
  | nil=>simp at hk
  | cons n ns=>
   cases acc with
   | nil=>simp at hl
   | cons v acc=>
    simp only[List.map_cons,List.cons.injEq]at hk
    obtain⟨k,x,h1,h2⟩:=h 0 v rfl
    have h1:kv=(k,x):=by simpa using h1
    subst h1
    have hk1:k=Sum.inl n:=hk.1
    subst hk1
    have hv:∃ t,v = .int n t:=by
     have h2:Value.isInt n v=true:=h2
     cases v <;> simp_all [Value.isInt]
    obtain⟨t,rfl⟩:=hv
    exact .cons n t (ih hk.2 (by simpa using hl) fun j v hv=>by
     obtain⟨k,x,h1,h2⟩:=h (j+1) v (by simpa using hv)
     exact⟨k,x,by simpa using h1,h2⟩)
def rSortedI:List V->Hp->VK->Prop:=fun xs H Q=>∃ d kvs ns,xs=[.ref d]/\H d=some (.dK kvs)/\kvs.map (·.1)=ns.map Sum.inl/\ns.length<64/\
 ∀ p ms,List.Perm ms ns->ms.Pairwise (· <= ·)->H p=none->Q (.ref p) (upd H p (.lst (ms.map .int)))
theorem kv_keys {κ : Type} {kvs:List (κ × V)} {vs:List (κ × Value)} (r:KV kvs vs):kvs.map (·.1)=vs.map (·.1):=by
 induction r with
 | nil=>rfl
 | cons h _ ih=>
  rw[List.map_cons,List.map_cons,ih]
  congr 1
  exact h.1
theorem call_sortedI (hc:X.calm=true):CallR X (.builtin "sorted") rSortedI:=by
 intro pins s σ H xs us Q I r h
 obtain⟨d,kvs,ns,rfl,hd,hk,hl,q⟩:=h
 cases r with
 | cons r1 r2=>
  cases r2
  cases (show _=Value.ref d from r1)
  obtain⟨hz,hsm,vs,rel,o,es,ep,dd⟩:=dk_of I.hok hd
  have hh:X.A.in1.handled=none:=I.ok.hd hc
  have hlen:vs.length=ns.length:=by
   have h1:=rel.length
   have h2:=congrArg List.length hk
   rw[List.length_map,List.length_map]at h2
   omega
  have hkv:vs.map (·.1)=ns.map Sum.inl:=by rw[<- kv_keys rel]; exact hk
  refine wpAny_call (codeAny_call_builtin plain_sorted entry_sorted (wpAny_of_eq (sorted_check _) ?_))
  show wpAny _ _ (checkCount "sorted" 1 1 1 >>= _) _ _ s
  refine wpAny_bind (wpAny_of_eq (a:=()) (by rfl) ?_)
  refine wpAny_bind (PySem.W.kdu_collect (PySem.W.kdl_dict (knd:=mixKind X.prog X.w) (kvs:=vs) (ep:=ep) hsm) hh ⟨o,es,dd⟩ (by rw[hlen]; exact Nat.le_of_lt (Nat.lt_trans hl (by decide))) fun h' tk acc keep hit=>?_)
  have hacc:acc.toList.length=vs.length:=by
   have:=hit.1
   simpa using this
  have hints:IntsAre acc.toList ns:=keys_ints (prog:=X.prog) (w:=X.w) hkv hacc fun j v hv=>hit.2 j v (by simpa using hv)
  refine wpAny_bind (wpAny_newList ?_ (by rw[hacc,hlen]; exact Nat.le_of_lt (Nat.lt_trans hl (by decide))))
  generalize eh2:h'.push { cls:=.type "list",data:=.seq acc.toList.toArray }=h2
  have g2:h2.get? h'.objs.size=some (seqObj "list" acc.toList.toArray 0):=by
   rw[<- eh2]
   exact Heap.get?_push_size _ rfl
  refine wpAny_bind (wpAny_holding ?_)
  refine wpAny_call_entry (T:="list") PyProof.Rows.slot_list_sort ⟨_,g2,rfl⟩ PyProof.Rows.entry_list_sort ?_ (PyProof.Rows.args_list_sort _)
  refine list_sort_tree g2 hints (by rw[hacc,hlen]; exact hl) fun out ms hout perm pw=>?_
  refine⟨_,rfl,wpAny_pure ?_⟩
  obtain⟨ep2,gat⟩:=sortedHeap_at (h:=h2) (a:=h'.objs.size) (vs:=acc.toList) (out:=out) g2
  have hf:H h'.objs.size=none:=(I.kept (t':=tk) keep).hok.fresh (Nat.le_refl _)
  refine⟨.ref h'.objs.size,upd H h'.objs.size (.lst (ms.map .int)),(I.kept (t':=tk) keep).laid (t':=tk) (fun b u e=>?_) (Nat.le_refl _) ?_,rfl,q _ ms perm pw hf⟩
  ·have hb:b<h'.objs.size:=Heap.lt_size e
   have h2s:h2.objs.size=h'.objs.size+1:=by rw[<- eh2]; exact Heap.size_push _ _
   rw[sortedHeap_old (Nat.ne_of_lt hb) (by rw[h2s]; exact Nat.lt_succ_of_lt hb),<- eh2]
   exact Heap.get?_push_of_some _ e
  ·refine⟨?_,out.toList,ep2,vals_ints hout,?_⟩
   ·rw[List.length_map,perm.length_eq]
    exact Nat.le_of_lt (Nat.lt_trans hl (by decide))
   ·simpa [seqObj] using gat
end
end L2
end
section
namespace L2
open PySem PySem.Spec PyProof.Rows
section
variable {X:Cx}
def tLR (ta:TA):TE:=fun σ H Q=>ta σ H fun vs H1=>∃ i j:Int,vs=[.int i,.int j]/\(-(2 ^ 62)<=i/\i<2 ^ 62/\-(2 ^ 62)<=j/\j<2 ^ 62)/\(j - i).toNat<=sizeLine/\∀ p,H1 p=none->Q (.ref p) (upd H1 p (.lst ((List.range (j - i).toNat).map fun k=>.int (i+(k:Nat)))))
theorem vals_range {i:Int}:∀ {n:Nat} {us:List Value},us.length=n->(∀ (j:Nat) v,us[j]? = some v->∃ t,v=Value.int (i+(j:Int) * 1) t)->Vals ((List.range n).map fun k=>V.int (i+(k:Nat))) us:=by
 intro n us hl h
 have key:∀ {n:Nat} {us:List Value} {f:Nat->Int},us.length=n->(∀ (j:Nat) v,us[j]? = some v->∃ t,v=Value.int (f j) t)->Vals ((List.range n).map fun k=>V.int (f k)) us:=by
  intro n
  induction n with
  | zero=>
   intro us f hl _
   cases us with
   | nil=>exact .nil
   | cons _ _=>simp at hl
  | succ n ih=>
   intro us f hl h
   cases us with
   | nil=>simp at hl
   | cons u us=>
    rw[List.range_succ_eq_map,List.map_cons,List.map_map]
    obtain⟨t,e⟩:=h 0 u rfl
    exact .cons ⟨t,e⟩ (ih (f:=fun k=>f (k+1)) (by simpa using hl) fun j v hv=>h (j+1) v (by simpa using hv))
 exact key hl fun j v hv=>by
  obtain⟨t,e⟩:=h j v hv
  exact⟨t,by rw[e,Int.mul_one]⟩
theorem pe_listRng {a b:Expr} {ta:TA} {p p2 pos pos2:Pos} (hc:X.calm=true) (hgL:Gl X "list") (hmL:X.mg "list" = none) (hg:Gl X "range") (hm:X.mg "range" = none) (ha:PA X [a,b] ta)
  (hs:starEach [a,b] X.env=[(false,eval a X.env),(false,eval b X.env)]:=by rfl) (hs2:starEach [b] X.env=[(false,eval b X.env)]:=by rfl)
  (hs3:starEach [.Call (.Name "range" p2) [a,b] [] pos2] X.env=[(false,eval (.Call (.Name "range" p2) [a,b] [] pos2) X.env)]:=by rfl) :
  PE X (.Call (.Name "list" p) [.Call (.Name "range" p2) [a,b] [] pos2] [] pos) (tLR ta):=by
 intro pins s σ H Q I h
 refine wpAny_Call_Name_kw (ld_blt I hgL hmL boot_list ?_)
 refine PyProof.Rows.callWith_type1 ?_ hs3 rfl
 rw[hs3]
 show wpAny _ _ (spliced ((false,eval (.Call (.Name "range" p2) [a,b] [] pos2) X.env)::[])) _ _ s
 refine Calls.spliced_cons ?_
 refine Call_ (ld_blt I hg hm boot_range (PyProof.Rows.callWith_type1 (thn (ha pos2 pins s σ H _ I h) fun us s1 ⟨vs,H1,I1,r1,q1⟩=>?_) (by rw[hs,hs2]) (by rw[hs2]; rfl)))
 obtain⟨i,j,e,⟨q1,q2,q3,q4⟩,hz,q⟩:=q1
 subst e
 cases r1 with
 | cons r rr=>
  cases rr with
  | cons r' rr=>
   cases rr
   obtain⟨t,rfl⟩:=r
   obtain⟨t',rfl⟩:=r'
   refine call_range_2 ?_
   refine Calls.spliced_nil ?_
   have I2:Inv X pins σ H1 { s1 with heap:=s1.heap.push { cls:=.type "range",data:=.fields #[.int i t,.int j t',.int 1 s1.toks] },toks:=s1.toks+1 }:=I1.kept fun b o e=>Heap.get?_push_of_some _ e
   refine call_list_range (n:=(j - i).toNat) (I.ok.hd hc) (IsRange.new ..) (small_one q1 q2 q3 q4) (by rw[rangeSize_one]; split <;> omega) (Nat.le_trans hz (by decide)) fun h' tk acc c' kp g' hit=>?_
   refine⟨.ref _,upd H1 _ (.lst ((List.range (j - i).toNat).map fun k=>.int (i+(k:Nat)))),I2.laid (t':=tk) kp (Nat.le_refl _) ?_,rfl,q _ (I2.hok.fresh (Nat.le_refl _))⟩
   refine⟨by rw[List.length_map,List.length_range]; exact hz,acc.toList,c',vals_range (by have:=hit.1; simpa using this) fun k v hv=>hit.2 k v (by simpa using hv),?_⟩
   simpa using g'
def rDPop:V->List V->Hp->VK->Prop:=fun x vs H Q=>∃ a kvs k v,x = .ref a/\vs=[kV k]/\H a=some (.dK kvs)/\valV kvs k=some v/\Q v (upd H a (.dK (dropK kvs k)))
theorem mt_dpop:MtR X "dict.pop" rDPop:=by
 intro pins s σ H x vs v us Q I rx rv h
 obtain⟨a,kvs,k,y,rfl,rfl,hd,hk,q⟩:=h
 cases (show v=Value.ref a from rx)
 obtain⟨u,rfl,ru⟩:=vals1 rv
 exact d_pop I hd ru hk (.inl rfl) fun w' s' I' rw'=>⟨y,_,I',rw',q⟩
theorem pe_mk0 {k:Nat} {C:Addr} {ps:List Str} {sp:Sp} {E:XK} {x:Str} {p pos:Pos} (c:Maker X.prog X.w X.K X.mg X.base x C k ps sp) (hr:Room (k+1) X.A) (hx:Passes (CXE X.prog X.w) X E) (hg:Gl X x:=by rfl) (hdb:(x == ("__debug__" : Str))=false:=by decide) :
  PE X (.Call (.Name x p) [] [] pos) (tMk C sp E tNil):=by
 obtain⟨f,fd,F,M,hm,hb⟩:=c.ex
 intro pins s σ H Q I h
 exact pe_make0 M F hr hg hm hb .nil hx hdb pins s σ H Q I (tMake_nil h)
def tLT (K:PySem.W.Frag) (ta:TE):TT:=fun σ H Q=>ta σ H fun x H'=>∃ a xs,x = .ref a/\SqL K H' a xs/\Q (!xs.isEmpty) H'
theorem pt_listK (K:PySem.W.Frag) {a:Expr} {ta:TE} (ha:PE X a ta) (he:∀ whole,isTrue a X.env whole=(do let v <- whole; standAt a.pos; holding [v] (truthy v)):=by intro _; rfl) (hK:X.K=K:=by rfl):PT X a (tLT K ta):=by
 subst hK
 intro pins s σ H Q I h
 refine isTrue_plain (thn (ha pins s σ H _ I h) fun v s1 ⟨x,H1,I1,r1,a1,xs,ex,hq,q1⟩=>tru_ok pins s1 σ H1 x v Q I1 r1 ?_) (he _)
 subst ex
 exact⟨_,.inl ⟨xs,hq,rfl⟩,q1⟩
theorem pe_bmK (K:PySem.W.Frag) {T id:String} {name:Str} {r:V->List V->Hp->VK->Prop} {o e:Expr} {es:List Expr} {to:TE} {t:TA} {apos cpos:Pos} (pa:PlainAttrs T) (slot:Slot T name id) (hty:typeOf (.builtin id)=pure (.type "method_descriptor")) (hm:MtR X id r) (ho:PE X o to) (ha:PA X (e::es) t)
  (hbase:attributeBase o name X.env (eval o X.env)=eval o X.env:=by rfl)
  (hfew:((backTo cpos (starEach (e::es) X.env)).all (fun x=>!x.1) && (backToKw cpos (keywordEach [] X.env)).all (fun x=>x.1.isSome)
   && decide ((e::es).length+([]:List Keyword).length+(if ([]:List Keyword).isEmpty then 0 else 1)<30))=true:=by rfl)
  (hline:(apos.endLine == cpos.line)=true:=by rfl) (hs:starEach (e::es) X.env=(false,eval e X.env)::starEach es X.env:=by rfl) (hplain:(backTo cpos (starEach es X.env)).any (·.1)=false:=by rfl) (hK:X.K=K:=by rfl) :
  PE X (.Call (.Attribute o name apos) (e::es) [] cpos) (tBM K T r to t):=by
 subst hK
 exact pe_bm pa slot hty hm ho ha hbase hfew hline hs hplain
end
end L2
end
section
namespace L2
open PySem PySem.Spec PyProof.Rows
section
variable {X:Cx}
theorem keys_strs {prog:Program} {w:World} {kvs:List (Key × Value)} {ns:List Str} (hk:kvs.map (·.1)=ns.map Sum.inr):∀ {acc:List Value},acc.length=kvs.length->(∀ (j:Nat) (v:Value),acc[j]? = some v->∃ k x,kvs[j]? = some (k,x)/\(mixKind prog w).is k v=true)->StrsAre acc ns:=by
 induction kvs generalizing ns with
 | nil=>
  intro acc hl _
  cases ns with
  | nil=>
   cases acc with
   | nil=>exact .nil
   | cons _ _=>simp at hl
  | cons _ _=>simp at hk
 | cons kv kvs ih=>
  intro acc hl h
  cases ns with
  | nil=>simp at hk
  | cons n ns=>
   cases acc with
   | nil=>simp at hl
   | cons v acc=>
    simp only[List.map_cons,List.cons.injEq]at hk
    obtain⟨k,x,h1,h2⟩:=h 0 v rfl
    have h1:kv=(k,x):=by simpa using h1
    subst h1
    have hk1:k=Sum.inr n:=hk.1
    subst hk1
    obtain⟨t,rfl⟩:∃ t,v = .str n t:=by
     rcases keyIs_shape (k:=Sum.inr n) (v:=v) h2 with ⟨i,t,e,_⟩ | ⟨y,t,e,e2⟩
     ·cases e
     ·cases e
      exact⟨t,e2⟩
    exact .cons n t (ih hk.2 (by simpa using hl) fun j v hv=>by
     obtain⟨k,x,h1,h2⟩:=h (j+1) v (by simpa using hv)
     exact⟨k,x,by simpa using h1,h2⟩)
theorem vals_strs:∀ {vs:List Value} {ss:List Str},StrsAre vs ss->Vals (ss.map V.str) vs
 | _,_,.nil=>.nil
 | _,_,.cons y t h=>.cons ⟨t,rfl⟩ (vals_strs h)
theorem kind_strs {v₁ v₂ : Value} {rest:List Value} {ss:List Str} (h:StrsAre (v₁ :: v₂ :: rest) ss):keyKind' (v₁ :: v₂ :: rest).toArray=pure oneType':=by
 exact keyKind_strs h
def rSortedS:List V->Hp->VK->Prop:=fun xs H Q=>∃ d kvs ns,xs=[.ref d]/\H d=some (.dK kvs)/\kvs.map (·.1)=ns.map Sum.inr/\ns.length<64/\
 ∀ p ms,List.Perm ms ns->sortedS ms=true->H p=none->Q (.ref p) (upd H p (.lst (ms.map .str)))
theorem call_sortedS (hc:X.calm=true):CallR X (.builtin "sorted") rSortedS:=by
 intro pins s σ H xs us Q I r h
 obtain⟨d,kvs,ns,rfl,hd,hk,hl,q⟩:=h
 cases r with
 | cons r1 r2=>
  cases r2
  cases (show _=Value.ref d from r1)
  obtain⟨hz,hsm,vs,rel,o,es,ep,dd⟩:=dk_of I.hok hd
  have hh:X.A.in1.handled=none:=I.ok.hd hc
  have hlen:vs.length=ns.length:=by
   have h1:=rel.length
   have h2:=congrArg List.length hk
   rw[List.length_map,List.length_map]at h2
   omega
  have hkv:vs.map (·.1)=ns.map Sum.inr:=by rw[<- kv_keys rel]; exact hk
  refine wpAny_call (codeAny_call_builtin plain_sorted entry_sorted (wpAny_of_eq (sorted_check _) ?_))
  show wpAny _ _ (checkCount "sorted" 1 1 1 >>= _) _ _ s
  refine wpAny_bind (wpAny_of_eq (a:=()) (by rfl) ?_)
  refine wpAny_bind (PySem.W.kdu_collect (PySem.W.kdl_dict (knd:=mixKind X.prog X.w) (kvs:=vs) (ep:=ep) hsm) hh ⟨o,es,dd⟩ (by rw[hlen]; exact Nat.le_of_lt (Nat.lt_trans hl (by decide))) fun h' tk acc keep hit=>?_)
  have hacc:acc.toList.length=vs.length:=by
   have:=hit.1
   simpa using this
  have hstrs:StrsAre acc.toList ns:=keys_strs (prog:=X.prog) (w:=X.w) hkv hacc fun j v hv=>hit.2 j v (by simpa using hv)
  refine wpAny_bind (wpAny_newList ?_ (by rw[hacc,hlen]; exact Nat.le_of_lt (Nat.lt_trans hl (by decide))))
  generalize eh2:h'.push { cls:=.type "list",data:=.seq acc.toList.toArray }=h2
  have g2:h2.get? h'.objs.size=some (seqObj "list" acc.toList.toArray 0):=by
   rw[<- eh2]
   exact Heap.get?_push_size _ rfl
  refine wpAny_bind (wpAny_holding ?_)
  refine wpAny_call_entry (T:="list") PyProof.Rows.slot_list_sort ⟨_,g2,rfl⟩ PyProof.Rows.entry_list_sort ?_ (PyProof.Rows.args_list_sort _)
  refine list_sort_treeK strKind_oneLt g2 hstrs.keysOf (fun v₁ v₂ rest e=>kind_strs (e ▸ hstrs)) (by rw[hacc,hlen]; exact hl) fun st' p1 p2=>?_
  obtain⟨ms,hout,perm,pw⟩:=sorted_out_str hstrs p1 p2
  generalize (arrOf st').map (fun x=>x.snd)=out at hout
  refine⟨_,rfl,wpAny_pure ?_⟩
  obtain⟨ep2,gat⟩:=sortedHeap_at (h:=h2) (a:=h'.objs.size) (vs:=acc.toList) (out:=out) g2
  have hf:H h'.objs.size=none:=(I.kept (t':=tk) keep).hok.fresh (Nat.le_refl _)
  refine⟨.ref h'.objs.size,upd H h'.objs.size (.lst (ms.map .str)),(I.kept (t':=tk) keep).laid (t':=tk) (fun b u e=>?_) (Nat.le_refl _) ?_,rfl,q _ ms perm pw hf⟩
  ·have hb:b<h'.objs.size:=Heap.lt_size e
   have h2s:h2.objs.size=h'.objs.size+1:=by rw[<- eh2]; exact Heap.size_push _ _
   rw[sortedHeap_old (Nat.ne_of_lt hb) (by rw[h2s]; exact Nat.lt_succ_of_lt hb),<- eh2]
   exact Heap.get?_push_of_some _ e
  ·refine⟨?_,out.toList,ep2,vals_strs hout,?_⟩
   ·rw[List.length_map,perm.length_eq]
    exact Nat.le_of_lt (Nat.lt_trans hl (by decide))
   ·simpa [seqObj] using gat
def Its (x:Str):It:=⟨fun i _=>i<x.cps.size,fun i H v H'=>H'=H/\∃ c,x.cps[i]? = some c/\v = .str ⟨#[c]⟩,fun i _=>x.cps.size<=i⟩
theorem turn_str {P:Program} {w:World} {K:PySem.W.Frag} {tg:Expr} (x:Str) (t:Tok) (it:Addr) (hx:(x.cps.all fun c=>decide (c<128))=true):Turn P w K tg (Its x) [it] it (fun i h=>h.IsStrIter it "str_ascii_iterator" x t i) where
 mem:=by simp
 obj:=fun i h st b hb=>by
  have e:b=it:=by simpa using hb
  subst e
  obtain⟨o,e,c,d⟩:=st
  exact⟨o,e,fun v z=>by rw[d]at z; cases z⟩
 keep:=fun i h h' st k=>by
  obtain⟨o,e,r⟩:=st
  exact⟨o,k it (by simp) o e,r⟩
 item:=by
  intro X hP hw hK hc i pins s σ H E I hf st hg
  subst hP hw hK
  have hg:i<x.cps.size:=hg
  obtain⟨f0,f1,f2,f3,f4,f5⟩:=hf it (by simp)
  refine wpAny_pyNext_ascii_item st (c:=x.cps[i]) (by simp [hg]) fun h' st' sb=>?_
  have I1:Inv X pins σ H { s with heap:=h',toks:=s.toks+1 }:=I.turned (t':=s.toks+1) (fun b o hb e=>(sb.2 b hb).trans e) f0 f1 f3 f4 f5
  obtain⟨o,e,c,d⟩:=id st'
  exact⟨_,rfl,go_of (s:={ s with heap:=h',toks:=s.toks+1 }) e c d (by decide) ⟨.str ⟨#[x.cps[i]]⟩,H,I1,⟨_,rfl⟩,⟨rfl,_,by simp [hg],rfl⟩,st',fun b hb=>(hf b hb).1⟩⟩
 done:=by
  intro X hP hw hK hc i pins s σ H E I hf st hg
  subst hP hw hK
  have hg:x.cps.size<=i:=hg
  obtain⟨f0,f1,f2,f3,f4,f5⟩:=hf it (by simp)
  exact wpAny_pyNext_ascii_end (I.ok.hd hc) st (by simp [hg]) fun h' eb=>⟨rfl,I.turned (t':=s.toks) (fun b o hb e=>eb b o hb e) f0 f1 f3 f4 f5⟩
 self:=fun _ _ _ _ _ st h=>wpAny_pyIter_striter_ascii st h
def iStr (tl:TE):TI:=fun σ H R=>tl σ H fun v H1=>∃ x:Str,v = .str x/\(x.cps.all fun c=>decide (c<128))=true/\R (Its x) H1
theorem pi_str {tg l:Expr} {tl:TE} (hl:PE X l tl):PI X tg l (iStr tl):=by
 intro pins s σ H R I h
 refine thn (hl pins s σ H _ I h) fun v s1 ⟨y,H1,I1,r1,q1⟩=>?_
 obtain⟨x,e,hx,q⟩:=q1
 subst e
 obtain⟨t,rfl⟩:=r1
 refine wpAny_pyIter_strU ?_
 have ht:strIterType x = "str_ascii_iterator":=by unfold strIterType; rw[if_pos hx]
 rw[ht]
 refine⟨s1.heap.objs.size,[s1.heap.objs.size],_,_,H1,rfl,I1.kept (t':=s1.toks) fun b o e=>Heap.get?_push_of_some _ e,turn_str x t _ hx,⟨_,Heap.get?_push_size _ rfl,rfl,rfl⟩,fun b hb=>?_,q⟩
 have e:b=s1.heap.objs.size:=by simpa using hb
 subst e
 exact I1.fpOk (Nat.le_refl _) (I1.hok.fresh (Nat.le_refl _))
theorem src_str {H:Hp} (x:Str):Src (Its x) H x.cps.size (fun i v _=>∃ c,x.cps[i]? = some c/\v = .str ⟨#[c]⟩) where
 go:=fun i H' hi s=>hi
 yld:=fun i H' v H'' hi s y=>⟨by rw[y.1]; exact Same.refl _,y.2⟩
 stop:=fun H' s=>Nat.le_refl _
end
end L2
end
section
namespace L2
open PySem PySem.Spec PyProof.Rows
section
variable {X:Cx} {pins:List (Addr × Obj)} {σ : St} {H:Hp} {s:Shared}
end
end L2
end
section
namespace L2
open PySem PySem.Spec PyProof.Rows
section
variable {X:Cx}
end
end L2
end
section
namespace TS
open PySem PyProof.Rows
section
variable {prog:Program} {w:World} {A:Around} {E:Value->Shared->Prop} {s:Shared} {κ : KeyKind}
end
section
variable {prog:Program} {w:World} {A:Around} {E:Value->Shared->Prop} {s:Shared} {κ : KeyKind}
end
end TS
end
section
namespace TS
open PySem PyProof.Rows
section
variable {κ : KeyKind} {a b o:Array Keyed} {i j:Nat}
end
section
variable {prog:Program} {w:World} {A:Around} {E:Value->Shared->Prop} {s:Shared} {κ : KeyKind} {a b:Array Keyed}
end
end TS
end
section
namespace TS
open PySem PyProof.Rows
section
variable {κ : KeyKind} {a b o:Array Keyed} {i j:Nat}
end
section
variable {prog:Program} {w:World} {A:Around} {E:Value->Shared->Prop} {s:Shared} {κ : KeyKind} {a b:Array Keyed}
end
end TS
end
section
namespace TS
open PySem PyProof.Rows
section
variable {prog:Program} {w:World} {A:Around} {E:Value->Shared->Prop} {s:Shared} {κ : KeyKind} {a₀ : Array Keyed}
end
end TS
end
section
namespace TS
open PySem PyProof.Rows
section
variable {prog:Program} {w:World} {A:Around} {E:Value->Shared->Prop} {s:Shared} {κ : KeyKind} {a₀ : Array Keyed}
end
end TS
end
section
namespace TS
open PySem PyProof.Rows
section
variable {prog:Program} {w:World} {A:Around} {E:Value->Shared->Prop} {s:Shared} {κ : KeyKind} {a₀ : Array Keyed}
end
section
variable {prog:Program} {w:World} {A:Around} {E:Value->Shared->Prop} {s:Shared} {κ : KeyKind} {a₀ : Array Keyed}
end
end TS
end
section
namespace TS
open PySem PyProof.Rows
section
variable {prog:Program} {w:World} {A:Around} {E:Value->Shared->Prop} {s:Shared} {κ : KeyKind}
end
end TS
namespace TS
open PySem PyProof.Rows
end TS
namespace L2
open PySem PySem.Spec PyProof.Rows
section
variable {X:Cx}
end
end L2
end
section
namespace L2
open PySem PySem.Spec PyProof.Rows
section
variable {X:Cx}
end
end L2
end
section
namespace L2
open PySem PySem.Spec PyProof.Rows
section
variable {X:Cx}
def tFw (a:Str) (te:TE):TE:=fun σ H Q=>te σ H fun v H1=>∃ i:Int,v = .int i/\0<=i/\i<10 ^ 10/\Q (.str (a++Str.ofString (toString i))) H1
theorem log_small {a:Int} (h0:0<=a) (h:a<10 ^ 10):a.natAbs.log2<1920:=by
 have h:a.natAbs<10 ^ 10:=by omega
 by_cases h0:a.natAbs=0
 ·rw[h0]; decide
 ·have h1:a.natAbs.log2<64:=(Nat.log2_lt h0).mpr (Nat.lt_of_lt_of_le h (by decide))
  omega
theorem pe_fw {a:Str} {e:Expr} {te:TE} {k:Nat} {p1 p2 pos:Pos} (he:PE X e te) (ha:a.length<=1000:=by decide):PE X (.JoinedStr [.Constant (.str a) k p1,.FormattedValue e (-1) none p2] pos) (tFw a te):=by
 intro pins s σ H Q I h
 refine wpAny_JoinedStr ?_
 have e2:evalEach [.Constant (.str a) k p1,.FormattedValue e (-1) none p2] X.env=[eval (.Constant (.str a) k p1) X.env,eval (.FormattedValue e (-1) none p2) X.env]:=by rfl
 rw[e2]
 unfold Joins
 refine thn (pe_str pins s σ H (fun v H1=>v = .str a/\H1=H) I ⟨rfl,rfl⟩) fun v s1 ⟨x,H1,I1,r1,hx,hH⟩=>?_
 subst hx hH
 obtain⟨t,rfl⟩:=r1
 refine⟨a,t,rfl,?_,?_⟩
 ·rw[PySem.W.KT.empty_app]
  exact Nat.le_trans ha (by decide)
 rw[PySem.W.KT.empty_app]
 unfold Joins
 refine wpAny_FormattedValue_plain (thn (he pins s1 σ _ _ I1 h) fun v s2 ⟨x,H2,I2,r2,i,hx,h0,h1,q⟩=>?_)
 subst hx
 obtain⟨u,rfl⟩:=r2
 have hl:(a++Str.ofString (toString i)).length<=sizeLine:=by
  have:=PySem.W.KT.len_num h0 h1
  rw[strLen_append]
  exact Nat.le_trans (show _<=1010 by omega) (by decide)
 refine wpAny_formatField_int (log_small h0 h1) ⟨_,_,rfl,hl,hl,?_⟩
 exact⟨.str _,H2,I2.kept (fun _ _ e=>e),⟨_,rfl⟩,q⟩
def rSlS:V->Option Int->Option Int->Hp->VK->Prop:=fun x lo hi H Q=>∃ y,x = .str y/\y.length<=sizeLine/\Q (.str (Txt.slice y lo hi)) H
theorem sl_str:SlR X rSlS:=by
 intro pins s σ H x v vl vu lo hi sl Q I rx hs pl pu h
 obtain⟨y,rfl,hz,q⟩:=h
 obtain⟨t,rfl⟩:=rx
 obtain⟨o,h1,h2,h3⟩:=hs
 refine⟨"str",_,F.slot_str_getitem.lookup,typeIs_str _ _ _,?_⟩
 have key:∀ (l u:Option (Int × Tok)),s.heap.IsSlice sl l u none->l.map (·.1)=lo->u.map (·.1)=hi->wpAny (model X.prog X.w) X.A (getItem (.str y t) (.ref sl)) (EP X pins σ Q) X.xe s:=by
  intro l u hsl e1 e2
  subst e1 e2
  exact wpAny_getItem_str_slice (l:=l) (u:=u) (st:=none) hsl rfl (post_val_or_str ⟨Nat.le_trans (Txt.slice_le y _ _) hz,fun t' k=>⟨.str _,H,I.kept (t':=k) (fun _ _ e=>e),⟨t',rfl⟩,q⟩⟩)
 cases pl with
 | none=>
  cases pu with
  | none=>exact key none none ⟨o,h1,h2,h3⟩ rfl rfl
  | int j u=>exact key none (some (j,u)) ⟨o,h1,h2,h3⟩ rfl rfl
 | int i u=>
  cases pu with
  | none=>exact key (some (i,u)) none ⟨o,h1,h2,h3⟩ rfl rfl
  | int j u'=>exact key (some (i,u)) (some (j,u')) ⟨o,h1,h2,h3⟩ rfl rfl
theorem mt_isdigit:MtR X "str.isdigit" (fun x vs H Q=>∃ y,x = .str y/\vs=[]/\Q (.bl (Txt.isdigit y)) H):=by
 intro pins s σ H x vs v us Q I rx rv h
 obtain⟨y,rfl,rfl,q⟩:=h
 obtain⟨t,rfl⟩:=rx
 cases rv
 exact SC.isdigit ⟨.bl _,H,I,rfl,q⟩
theorem pe_bm0K (K:PySem.W.Frag) {T id:String} {name:Str} {r:V->List V->Hp->VK->Prop} {o:Expr} {to:TE} {apos cpos:Pos} (pa:PlainAttrs T) (slot:Slot T name id) (hty:typeOf (.builtin id)=pure (.type "method_descriptor")) (hm:MtR X id r) (ho:PE X o to)
  (hbase:attributeBase o name X.env (eval o X.env)=eval o X.env:=by rfl) (hline:(apos.endLine == cpos.line)=true:=by rfl) (hK:X.K=K:=by rfl):PE X (.Call (.Attribute o name apos) [] [] cpos) (tBM0 K T r to):=by
 subst hK
 exact pe_bm0 pa slot hty hm ho hbase hline
def rIntT:List V->Hp->VK->Prop:=fun xs H Q=>∃ x n,xs=[.str x]/\PySem.intText? x=some n/\x.length<=640/\Q (.int n) H
theorem call_intT:CallR X (.type "int") rIntT:=by
 intro pins s σ H xs us Q I r h
 obtain⟨x,n,rfl,hn,hl,q⟩:=h
 obtain⟨u,rfl,t,rfl⟩:=vals1 r
 exact PySem.W.KIN.call_text hn hl ⟨.int n,H,I.tok _,⟨_,rfl⟩,q⟩
theorem ints_vals:∀ {ns:List Int} {vs:List Value},Vals (ns.map V.int) vs->IntsAre vs ns
 | [],_,h=>by cases h; exact .nil
 | n::ns,_,h=>by
  cases h with
  | cons r h=>
   obtain⟨t,rfl⟩:=r
   exact .cons n t (ints_vals h)
def rSortedLs:List V->Hp->VK->Prop:=fun xs H Q=>∃ l ns,xs=[.ref l]/\H l=some (.lst (ns.map .int))/\ns.length<64/\
 ∀ p ms,List.Perm ms ns->ms.Pairwise (· <= ·)->H p=none->Q (.ref p) (upd H p (.lst (ms.map .int)))
theorem call_sortedLs:CallR X (.builtin "sorted") rSortedLs:=by
 intro pins s σ H xs us Q I r h
 obtain⟨l,ns,rfl,hd,hl,q⟩:=h
 have hl':ns.length<=sizeLine:=Nat.le_trans (Nat.le_of_lt hl) (by decide)
 cases r with
 | cons r1 r2=>
  cases r2
  cases (show _=Value.ref l from r1)
  obtain⟨vs,rv,hp,hz⟩:=I.list (SqL.of hd)
  have hI:=ints_vals rv
  have hlen:vs.length=ns.length:=by have:=rv.length; rw[List.length_map]at this; omega
  refine sorted_ints hp.isList hI (by omega) fun out ms hout perm pw=>?_
  obtain⟨ep2,gat⟩:=sortedAll_at s.heap vs out
  have hf:H (s.heap.objs.size+1)=none:=I.hok.fresh (Nat.le_succ _)
  refine⟨.ref (s.heap.objs.size+1),upd H (s.heap.objs.size+1) (.lst (ms.map .int)),I.laid (t':=s.toks) (fun b u e=>sortedAll_old e) (Nat.le_succ _) ?_,rfl,q _ ms perm pw hf⟩
  refine⟨?_,out.toList,ep2,vals_ints hout,?_⟩
  ·rw[List.length_map,perm.length_eq]
   exact hl'
  ·simpa [seqObj] using gat
theorem pe_fldK (K:PySem.W.Frag) {X:Cx} {e:Expr} {f:Str} {pos:Pos} {ta:TE} (he:PE X e ta) (hb:attributeBase e f X.env (eval e X.env)=eval e X.env) (hK:X.K=K:=by rfl):PE X (.Attribute e f pos) (tFld K ta f):=by
 subst hK
 exact pe_fld he hb
end
end L2
end
section
namespace L2
open PySem PySem.Spec PyProof.Rows
theorem enum_new_kwS (l:Addr) (items:Array Value) (n:Nat) (dct:Option Addr) (sl:Array (Option Value)) (lo:Int) (t:Tok) (hlo:0<=lo/\lo<1000000000) :
  Meets (Builtin.«enumerate.__new__» ⟨[.type "enumerate",.ref l],[("start",.int lo t)]⟩) (fun _ R s=>s.heap.get? l=some { cls:=.type "tuple",dict:=dct,data:=.seq items n,slots:=sl }/\
   R (.ok (.ret (.ref (s.heap.push { cls:=.type "tuple_iterator",data:=.fields #[.ref l,.int 0 0] }).objs.size)))
    { s with heap:=(s.heap.push { cls:=.type "tuple_iterator",data:=.fields #[.ref l,.int 0 0] }).push { cls:=.type "enumerate",data:=.fields #[.none,.bool false,.ref s.heap.objs.size,rawInt lo,.none,.none] } }):=
 .of_wp fun prog w A R s h=>by
  obtain⟨hp,g,d,tk,os⟩:=s
  obtain⟨hl,h⟩:=h
  have z1:=sub_enumerate
  have hf:Builtin.SmallTypes.fitsIndex lo=true:=by
   unfold Builtin.SmallTypes.fitsIndex
   simp
   omega
  have z2:Heap.IsTuple (Shared.heap ⟨hp,g,d,tk,os⟩) l items:=⟨_,hl,rfl,n,rfl⟩
  wp_walk using AutoSeq1.wpAny_loadPart' hl
  refine wpAny_stack_any fun st=>wpAny_pure ?_
  split
  ·rename_i c _ _ _ _ _
   cases (c == Value.type "enumerate")
   ·wp_walk using AutoSeq1.wpAny_loadPart' hl,wpAny_pyIter_tuple z2
    exact⟨_,rfl,h⟩
   ·wp_walk using AutoSeq1.wpAny_loadPart' hl,wpAny_pyIter_tuple z2
    exact⟨_,rfl,h⟩
  ·wp_walk using AutoSeq1.wpAny_loadPart' hl,wpAny_pyIter_tuple z2
   exact⟨_,rfl,h⟩
section
variable {X:Cx}
def iEnumS (K:PySem.W.Frag) (ta tb:TE):TI:=fun σ H R=>ta σ H fun x H1=>tb σ H1 fun y H2=>∃ a xs lo,x = .ref a/\y = .int lo/\0<=lo/\lo<1000000000/\SqT K H2 a xs/\R (Ite K lo a) H2
theorem pi_enumS (K:PySem.W.Frag) {ex e2:Expr} {elts:List Expr} {x1:Nat} {tp p pos kp:Pos} {ta tb:TE} (hm:X.mg "enumerate" = none) (ha:PE X ex ta) (hb:PE X e2 tb) (hg:Gl X "enumerate":=by rfl) (hs:starEach [ex] X.env=[(false,eval ex X.env)]:=by rfl) (hK:X.K=K:=by rfl) :
  PI X (.Tuple elts x1 tp) (.Call (.Name "enumerate" p) [ex] [⟨some "start",e2,kp⟩] pos) (iEnumS K ta tb):=by
 subst hK
 intro pins s σ H R I h
 refine wpAny_Call_Name_kw (ld_blt I hg hm boot_enumerate ?_)
 rw[hs]
 refine callTyKw (x:=eval ex X.env) (rest:=[]) rfl rfl rfl ?_
 have ha':=pa_cons ha pa_nil hs pos pins s σ H (fun vs H1=>∃ x,vs=[x]/\tb σ H1 fun y H2=>∃ a xs lo,x = .ref a/\y = .int lo/\0<=lo/\lo<1000000000/\SqT X.K H2 a xs/\R (Ite X.K lo a) H2) I (by
  have e:(fun(x:V) (H1:Hp)=>tNil σ H1 fun xs H2=>∃ z,x::xs=[z]/\tb σ H2 fun y H3=>∃ a ys lo,z = .ref a/\y = .int lo/\0<=lo/\lo<1000000000/\SqT X.K H3 a ys/\R (Ite X.K lo a) H3)=fun x H1=>tb σ H1 fun y H3=>∃ a ys lo,x = .ref a/\y = .int lo/\0<=lo/\lo<1000000000/\SqT X.K H3 a ys/\R (Ite X.K lo a) H3:=by
   funext x H1
   simp only[tNil,List.cons.injEq,and_true]
   apply propext
   constructor
   ·rintro ⟨z,rfl,h⟩
    exact h
   ·intro h
    exact⟨x,rfl,h⟩
  show ta σ H (fun x H1=>tNil σ H1 fun xs H2=>_)
  rw[e]
  exact h)
 rw[hs]at ha'
 refine thn ha' fun us s1 ⟨vs,H1,I1,r1,x,ev,q1⟩=>?_
 subst ev
 refine kws_cons (thn (hb pins s1 σ H1 _ I1 q1) fun v2 s2 ⟨y,H2,I2,ry,a,xs,lo,ex',ey,l0,l1,hq,q⟩=>?_)
 refine kws_nil ?_
 subst ex' ey
 cases r1 with
 | cons r rr=>
  cases rr
  cases (show _=Value.ref a from r)
  obtain⟨tt,rfl⟩:∃ tt,v2 = .int lo tt:=ry
  obtain⟨its,rv,⟨⟨c,dd,dt,sl⟩,ho,hc1,n,hd1⟩,hz⟩:=I2.tuple hq
  dsimp only at hc1 hd1
  subst hc1 hd1
  refine typeCallKw (kw:=[("start",_)]) PySem.F.called_enumerate (enum_typeCall _ _) (enum_newCall _ _) PySem.F.entry_enumerate_new (enum_new_kwS a _ n dd sl lo tt ⟨l0,l1⟩) (fun obj=>init_kw obj _ _) (fun obj=>init_kw_meets obj _ _) ⟨ho,⟨_,Heap.get?_push_size _ rfl,rfl⟩,?_⟩
  rw[Heap.size_push]
  exact enum_pie (tg:=ex) (tk:=s2.toks) I2 q
end
end L2
end
section
namespace L2
open PySem PySem.Spec PyProof.Rows
section
variable {X:Cx}
end
section
variable {X:Cx}
end
end L2
end
section
local macro_rules | `(tactic| trivial) => `(tactic| first | rfl | decide | exact .inl rfl | exact .inr rfl | exact .inr (.inl rfl) | exact .inr (.inr rfl) | (intro _; rfl) | with_unfolding_all rfl)
local macro_rules | `(⋯) => `(by trivial)
local macro_rules | `(‹0›) => `(⟨rfl, rfl, rfl, by decide +kernel, rfl, by decide +kernel, by decide +kernel⟩)
set_option hygiene false in
local macro_rules | `(‹1›) => `(TxtD K mg C_BadName C_Missing C_There C_Stopped C_BadRow C_BadNumber C_Disk)
set_option hygiene false in
local macro_rules | `(‹2›) => `(Callee P w K mg base "segment_name" 1 ["segment"] sp_segment_name)
set_option hygiene false in
local macro_rules | `(‹3›) => `(Method P w K mg base C_Disk "check_file" 3 ["self", "name"] (sp_check_file C_Disk C_BadName C_Missing))
set_option hygiene false in
local macro_rules | `(‹4›) => `(Method P w K mg base A.disk "add" 4 ["self", "name", "some"] (sp_add A.disk A.badName A.missing A.badRow A.stopped))
set_option hygiene false in
local macro_rules | `(‹5›) => `(Callee P w K mg base "is_number" 1 ["thing", "least", "most"] sp_is_number)
set_option hygiene false in
local macro_rules | `(‹6›) => `(Method P w K mg base A.queue "write" 7 ["self", "rows"] (sp_q_write A))
set_option hygiene false in
local macro_rules | `(‹7›) => `(TxtK K mg a_KINDS C_BadRow C_Broken C_Book)
set_option hygiene false in
local macro_rules | `(‹8›) => `(Method P w K mg base C_Disk "count_step" 1 ["self"] (sp_count_step C_Disk C_Stopped))
set_option hygiene false in
local macro_rules | `(‹9›) => `(FnOk P w K mg base (CXE P w))
set_option hygiene false in
local macro_rules | `(‹10›) => `(Callee P w K mg base)
set_option hygiene false in
local macro_rules | `(‹11›) => `(Method P w K mg base)
set_option hygiene false in
local macro_rules | `(‹12›) => `(Maker P w K mg base)
set_option hygiene false in
local macro_rules | `(‹13›) => `(Callee l.prog w K mg base)
set_option hygiene false in
local macro_rules | `(‹14›) => `(Method l.prog w K mg base)
set_option hygiene false in
local macro_rules | `(‹15›) => `((hr.mono (by decide)))
set_option hygiene false in
local macro_rules | `(‹16›) => `((⟨a_KINDS, C_BadRow, C_Broken, C_Book, C_BadName, C_Missing, C_There, C_Stopped, C_BadNumber, C_Disk, C_Queue, C_BadSettings, C_BadBody, C_BadHand, C_NotHeld⟩ : Ad))
set_option hygiene false in
local macro_rules | `(‹17›) => `((fun _ _ _ _ _ _ us hl => match us, hl with | [_], _ => rfl))
set_option hygiene false in
local macro_rules | `(‹18›) => `((fun _ _ _ _ _ _ us hl => match us, hl with | [_, _], _ => rfl))
set_option hygiene false in
local macro_rules | `(‹19›) => `((fun _ _ _ _ _ _ us hl => match us, hl with | [_, _, _], _ => rfl))
set_option hygiene false in
local macro_rules | `(‹20›) => `(@pv _ 0 _ _ ⋯ ⋯ ⋯ ⋯)
set_option hygiene false in
local macro_rules | `(‹21›) => `(@pv _ 1 _ _ ⋯ ⋯ ⋯ ⋯)
set_option hygiene false in
local macro_rules | `(‹22›) => `(@pss_one _ _ _ (@ps_raise _ _ _ _ _ _ _ _ _ _ raisesB (by rfl) T.x_Broken (by rfl) T.m_Broken (@pa_Constant _ _ _ _ _ _ _ (@pe_str _ _ _ _) (@pa_nil _)) ⋯ ⋯ ⋯))
set_option hygiene false in
local macro_rules | `(‹23›) => `(@pa_Constant _ _ _ _ _ _ _ (@pe_str _ _ _ _) (@pa_nil _))
set_option hygiene false in
local macro_rules | `(‹24›) => `(@pe_int _ _ _ _)
set_option hygiene false in
local macro_rules | `(‹25›) => `(@pv _ 2 _ _ ⋯ ⋯ ⋯ ⋯)
set_option hygiene false in
local macro_rules | `(‹26›) => `(@pv _ 3 _ _ ⋯ ⋯ ⋯ ⋯)
set_option hygiene false in
local macro_rules | `(‹27›) => `(@pss_one _ _ _ (@ps_ret _ _ _ _ (@pe_bl _ _ _ _)))
set_option hygiene false in
local macro_rules | `(‹28›) => `(@pv _ 4 _ _ ⋯ ⋯ ⋯ ⋯)
set_option hygiene false in
local macro_rules | `(‹29›) => `(@pa_Name _ _ _ _ _ _ (@pe_bltn _ _ (.ty "tuple") _ _ (by rfl) T.n_tuple bt_tuple (by rfl) ⋯ ⋯) (@pa_nil _))
set_option hygiene false in
local macro_rules | `(‹30›) => `(@pv _ 5 _ _ ⋯ ⋯ ⋯ ⋯)
set_option hygiene false in
local macro_rules | `(‹31›) => `(fun C s2 H2 ex => (@pif_nil _))
set_option hygiene false in
local macro_rules | `(‹32›) => `(@pe_fld _ _ _ _ _ ‹20› (by rfl))
set_option hygiene false in
local macro_rules | `(‹33›) => `(@pe_callB _ _ _ _ _ _ _ _ _ (call_lenK K) (by rfl) T.n_len bt_len (@pa_Name _ _ _ _ _ _ ‹21› (@pa_nil _)) ⋯ ⋯ ⋯ ⋯)
set_option hygiene false in
local macro_rules | `(‹34›) => `(@pe_callB _ _ _ _ _ _ _ _ _ (call_lenK K) (by rfl) T.n_len bt_len (@pa_Name _ _ _ _ _ _ ‹20› (@pa_nil _)) ⋯ ⋯ ⋯ ⋯)
set_option hygiene false in
local macro_rules | `(‹35›) => `(@pe_ix _ _ _ _ _ _ _ (ix_tupK K) ‹21› ‹24› (fun _ _ => rfl))
set_option hygiene false in
local macro_rules | `(‹36›) => `(@pe_ix _ _ _ _ _ _ _ (ix_tupK K) ‹20› ‹24› (fun _ _ => rfl))
set_option hygiene false in
local macro_rules | `(‹37›) => `(@pa_Name _ _ _ _ _ _ ‹20› (@pa_nil _))
set_option hygiene false in
local macro_rules | `(‹38›) => `(@pe_fn _ _ _ _ _ _ _ _ _ _ _ c__law_cell ‹15› passN (@pa_Name _ _ _ _ _ _ ‹20› (@pa_Constant _ _ _ _ _ _ _ ‹24› (@pa_nil _))) ⋯ ⋯ ⋯ ⋯)
set_option hygiene false in
local macro_rules | `(‹39›) => `(@pe_ix _ _ _ _ _ _ _ (ix_tupK K) ‹26› ‹24› (fun _ _ => rfl))
set_option hygiene false in
local macro_rules | `(‹40›) => `(@pa_Name _ _ _ _ _ _ ‹21› (@pa_nil _))
set_option hygiene false in
local macro_rules | `(‹41›) => `(@pa_Constant _ _ _ _ _ _ _ ‹24› (@pa_nil _))
set_option hygiene false in
local macro_rules | `(‹42›) => `(@pe_callB _ _ _ _ _ _ _ _ _ (call_isiK K) (by rfl) T.n_isinstance bt_isinstance (@pa_Name _ _ _ _ _ _ ‹20› ‹29›) ⋯ ⋯ ⋯ ⋯)
set_option hygiene false in
local macro_rules | `(‹43›) => `(@pss_one _ _ _ (@ps_raise _ _ _ _ _ _ _ _ _ _ raisesB (by rfl) T.x_BadSettings (by rfl) T.m_BadSettings ‹23› ⋯ ⋯ ⋯))
set_option hygiene false in
local macro_rules | `(‹44›) => `(@pss_one _ _ _ (@ps_raise _ _ _ _ _ _ _ _ _ _ raisesB (by rfl) T.x_BadRow (by rfl) T.m_BadRow ‹23› ⋯ ⋯ ⋯))
set_option hygiene false in
local macro_rules | `(‹45›) => `(@pt_cmpR _ _ _ _ _ _ _ _ op_eq ‹26› (@pe_str _ _ _ _) (nomark _))
set_option hygiene false in
local macro_rules | `(‹46›) => `(@pe_op _ _ _ _ _ _ _ _ op_add ‹21› (@pe_glob _ _ (.int 7) _ _ (by rfl) hc_HEAD_SIZE ⟨_, rfl⟩ ⋯))
set_option hygiene false in
local macro_rules | `(‹47›) => `(@pa_Name _ _ _ _ _ _ ‹25› (@pa_nil _))
set_option hygiene false in
local macro_rules | `(‹48›) => `(@pe_ix _ _ _ _ _ _ _ (ix_listK K) ‹21› (@pe_un _ _ _ _ _ _ un_neg ‹24›) (fun _ _ => rfl))
set_option hygiene false in
local macro_rules | `(‹49›) => `(@pt_cmpR _ _ _ _ _ _ _ _ op_eq ‹20› (@pe_str _ _ _ _) (nomark _))
set_option hygiene false in
local macro_rules | `(‹50›) => `(@pa_Attribute _ _ _ _ _ _ _ ‹32› (@pa_nil _))
set_option hygiene false in
local macro_rules | `(‹51›) => `(@pe_dget _ _ _ _ _ _ (hu1 hr.units) ‹32› ‹21› (fun _ _ => rfl))
section
namespace Qh
open PySem L2
def top (i:Nat):Stmt:=PySem.Challenge.pw_queuehold_k41_whole_numbers_go_on.main.body.getD i (.Pass ⟨0,0,0,0⟩)
abbrev s_is_number:Stmt:=top 3
abbrev s_is_bytes:Stmt:=top 4
abbrev s_fits_kind:Stmt:=top 27
abbrev s_is_row:Stmt:=top 28
abbrev s_checks_of:Stmt:=top 29
theorem bt_len:bootBuiltins "len" = some (.builtin "len"):=by decide +kernel
theorem bt_isinstance:bootBuiltins "isinstance" = some (.builtin "isinstance"):=by decide +kernel
theorem bt_all:bootBuiltins "all" = some (.builtin "all"):=by decide +kernel
theorem bt_sum:bootBuiltins "sum" = some (.builtin "sum"):=by decide +kernel
theorem bt_tuple:bootBuiltins "tuple" = some (.type "tuple"):=by decide +kernel
theorem bt_int:bootBuiltins "int" = some (.type "int"):=by decide +kernel
theorem bt_bool:bootBuiltins "bool" = some (.type "bool"):=by decide +kernel
theorem bt_str:bootBuiltins "str" = some (.type "str"):=by decide +kernel
def kinds:List Str:=["put","out","done","from","part","deal","carried","new"]
structure TxtR (K:PySem.W.Frag) (mg:Str->Option Value) (a_KINDS C_BadRow:Addr):Prop where
 n_len:mg "len" = none
 n_isinstance:mg "isinstance" = none
 n_all:mg "all" = none
 n_sum:mg "sum" = none
 n_tuple:mg "tuple" = none
 n_int:mg "int" = none
 n_bool:mg "bool" = none
 n_str:mg "str" = none
 n_range:mg "range" = none
 n_enumerate:mg "enumerate" = none
 c_HIGHEST_BYTE:∃ t,mg "HIGHEST_BYTE" = some (.int 255 t)
 c_HIGHEST_NUMBER:∃ t,mg "HIGHEST_NUMBER" = some (.int 999999 t)
 c_LONGEST_BODY:∃ t,mg "LONGEST_BODY" = some (.int 60 t)
 c_HIGHEST_TIMES:∃ t,mg "HIGHEST_TIMES" = some (.int 9 t)
 c_LARGEST_DEAL:∃ t,mg "LARGEST_DEAL" = some (.int 9 t)
 c_KINDS:mg "KINDS" = some (.ref a_KINDS)
 k_KINDS:∀ H,SqT K H a_KINDS (kinds.map V.str)
 l_KINDS:∃ o,K.lookup a_KINDS=some o/\o.cls = .type "tuple"/\o.dict=none
 x_BadRow:excIn K C_BadRow=true
 m_BadRow:mg "BadRow" = some (.ref C_BadRow)
def isNum (lo hi:Int):PyData->Bool
 | .int i=>decide (lo<=i) && decide (i<=hi)
 | _=>false
def isByt:PyData->Bool
 | .tuple ds=>ds.all (isNum 0 255)
 | _=>false
def fitsK (k:Str) (ns:List Int):Bool:=
 if k = "put"\/k = "part" then decide (ns.length<=60)
 else if k = "carried" then decide (1<=ns.length) && decide (ns.length<=61) && decide (ns.headD 0<=9)
 else if k = "deal" then decide (ns.length=1) && decide (1<=ns.headD 0) && decide (ns.headD 0<=9)
 else decide (ns.length=0)
def sp_is_number:Sp:=fun vs H Q _=>∃ v d lo hi,vs=[v,.int lo,.int hi]/\Den H d v/\Q (.bl (isNum lo hi d)) H
def sp_is_bytes:Sp:=fun vs H Q _=>∃ v d,vs=[v]/\Den H d v/\(∀ ds,d = .tuple ds->ds.length<=sizeLine)/\∀ H',Same H H'->Q (.bl (isByt d)) H'
def sp_fits_kind:Sp:=fun vs H Q _=>∃ k a ns,vs=[.str k,.ref a]/\H a=some (.tup (ns.map V.int))/\Q (.bl (fitsK k ns)) H
theorem dstr_eq {a b:Str} (h:a=b):decide (V.str a=V.str b)=true:=decide_eq_true (by rw[h])
theorem dstr_ne {a b:Str} (h:¬ a=b):decide (V.str a=V.str b)=false:=decide_eq_false (fun z=>h (V.str.inj z))
theorem dint_ne {a b:Int} (h:¬ a=b):decide (V.int a=V.int b)=false:=decide_eq_false (fun z=>h (V.int.inj z))
section
variable {P:Program} {w:World} {K:PySem.W.Frag} {mg:Str->Option Value} {base:Heap} {a_KINDS C_BadRow:Addr}
theorem sc_is_number:FnScope ["thing","least","most"] ["thing","least","most"] (defScope s_is_number):=‹0›
theorem ok_is_number {f:Addr} {fd:FuncData} (F:Fun K "is_number" "is_number" s_is_number f fd) (T:TxtR K mg a_KINDS C_BadRow):‹9› 1 f fd ["thing","least","most"] sp_is_number:=by
 refine F.okX sc_is_number (fun vs H Q E h=>?_) (fun cdv A outer s H vs Q E hr h=>?_)
 ·obtain⟨v,d,lo,hi,rfl,_⟩:=h
  rfl
 ·obtain⟨v,d,lo,hi,rfl,hd,q⟩:=h
  refine⟨_,@pss_cons _ _ _ _ _ (@ps_if _ _ _ _ _ _ _ _ (@PW.pt _ _ _ (@pw_or _ _ _ _ _ _ _ (@pt_val _ _ _ (@pe_callB _ _ _ _ _ _ _ _ _ (call_isiK K) (by rfl) T.n_isinstance bt_isinstance (@pa_Name _ _ _ _ _ _ ‹20› (@pa_Name _ _ _ _ _ _ (@pe_bltn _ _ (.ty "bool") _ _ (by rfl) T.n_bool bt_bool (by rfl) ⋯ ⋯) (@pa_nil _))) ⋯ ⋯ ⋯ ⋯) ⋯) (@pw_or1 _ _ _ _ (@pt_not _ _ _ _ (@pt_val _ _ _ (@pe_callB _ _ _ _ _ _ _ _ _ (call_isiK K) (by rfl) T.n_isinstance bt_isinstance (@pa_Name _ _ _ _ _ _ ‹20› (@pa_Name _ _ _ _ _ _ (@pe_bltn _ _ (.ty "int") _ _ (by rfl) T.n_int bt_int (by rfl) ⋯ ⋯) (@pa_nil _))) ⋯ ⋯ ⋯ ⋯) ⋯))))) ‹27› (@pss_nil _)) (@pss_one _ _ _ (@ps_ret _ _ _ _ (@pe_chain _ _ _ _ _ _ _ _ _ _ _ _ op_le op_le ‹21› ‹20› ‹25› ⋯))),?_⟩
  refine⟨_,rfl,_,_,_,_,rfl,hd.ty,kit_bool d,_,rfl,?_⟩
  cases d with
  | bool b=>exact iteT (iteT q)
  | int i=>
   refine iteF ⟨_,rfl,_,_,_,_,rfl,hd.ty,kit_int _,_,rfl,iteF ?_⟩
   have e:v = .int i:=by simpa only[Den] using hd
   subst e
   refine⟨_,rfl,_,rfl,_,_,rfl,rfl,_,rfl,?_⟩
   simp only[isNum]at q
   by_cases h1:lo<=i
   ·rw[if_pos (decide_eq_true h1)]
    refine⟨_,rfl,_,_,rfl,rfl,?_⟩
    rw[decide_eq_true h1,Bool.true_and]at q
    exact q
   ·rw[if_neg (by simpa using h1)]
    rw[decide_eq_false h1,Bool.false_and]at q
    exact q
  | none=>exact iteF ⟨_,rfl,_,_,_,_,rfl,hd.ty,kit_int _,_,rfl,iteT q⟩
  | str x=>exact iteF ⟨_,rfl,_,_,_,_,rfl,hd.ty,kit_int _,_,rfl,iteT q⟩
  | tuple x=>exact iteF ⟨_,rfl,_,_,_,_,rfl,hd.ty,kit_int _,_,rfl,iteT q⟩
  | list x=>exact iteF ⟨_,rfl,_,_,_,_,rfl,hd.ty,kit_int _,_,rfl,iteT q⟩
  | dict x=>exact iteF ⟨_,rfl,_,_,_,_,rfl,hd.ty,kit_int _,_,rfl,iteT q⟩
theorem sc_is_bytes:FnScope ["thing"] ["thing"] (defScope s_is_bytes):=‹0›
theorem ok_is_bytes {f:Addr} {fd:FuncData} (F:Fun K "is_bytes" "is_bytes" s_is_bytes f fd) (T:TxtR K mg a_KINDS C_BadRow) (c_is_number:‹5›):‹9› 2 f fd ["thing"] sp_is_bytes:=by
 obtain⟨_,hc_HIGHEST_BYTE⟩:=T.c_HIGHEST_BYTE
 refine F.okX sc_is_bytes (fun vs H Q E h=>?_) (fun cdv A outer s H vs Q E hr h=>?_)
 ·obtain⟨v,d,rfl,_⟩:=h
  rfl
 ·obtain⟨v,d,rfl,hd,hz,q⟩:=h
  refine⟨_,@pss_one _ _ _ (@ps_ret _ _ _ _ (@pe_and _ _ _ _ _ _ _ ‹42› (@pe_one _ _ _ _ _ (@pe_callB _ _ _ _ _ _ _ _ _ (call_allK K) (by rfl) T.n_all bt_all (@pa_ListComp _ _ _ _ _ _ _ _ (@pe_comp _ _ _ _ _ _ _ _ _ _ _ ["one"] [] (by rfl) (@pi_tupK _ K _ _ _ ‹20› ⋯) (fun C s2 H2 ex=>(@pg_name _ _ (0) _ (show List.Nodup (["one"]:List Str) by decide +kernel) (by rfl) (Or.inl (by rfl)) ⋯)) ‹31› (fun C s2 H2 ex=>(@pe_fn _ _ _ _ _ _ _ _ _ _ _ c_is_number ‹15› passN (@pa_Name _ _ _ _ _ _ ‹20› (@pa_Constant _ _ _ _ _ _ _ ‹24› (@pa_Name _ _ _ _ _ _ (@pe_glob _ _ (.int 255) _ _ (by rfl) hc_HIGHEST_BYTE ⟨_,rfl⟩ ⋯) (@pa_nil _)))) ⋯ ⋯ ⋯ ⋯)) ⋯ ⋯ ⋯ ⋯) (@pa_nil _)) ⋯ ⋯ ⋯ ⋯)))),?_⟩
  refine⟨_,rfl,_,_,_,_,rfl,hd.ty,kit_tuple d,_,rfl,?_⟩
  cases d with
  | tuple ds=>
   refine iteT ?_
   have hd':=hd
   simp only[Den]at hd'
   obtain⟨a,xs,rfl,ha,hds⟩:=hd'
   have hl:=hds.length
   refine⟨_,rfl,a,rfl,⟨xs,SqT.of ha⟩,?_⟩
   refine comp_src (src_tup (K:=K) (SqT.of ha)) (by rw[hl]; exact hz ds rfl) (fun i y _=>∃ d,ds[i]? = some d/\y = .bl (isNum 0 255 d)) (fun _ _ _ _ _ h=>h) (fun σ=>σ.length=1) ?z0 ?_ ?_
   case z0=>rfl
   ·intro i x σc H3 hi hσ s3 hx Q' hQ'
    obtain⟨d,hdi,hdx⟩:=hds.get hx
    match σc,hσ with
    | [z],_=>
     refine⟨_,rfl,x,d,0,255,rfl,hdx.same s3,?_⟩
     exact hQ' _ _ _ rfl (Same.refl _) ⟨d,hdi,rfl⟩
   ·intro D ys H' hD s' hD' hlen hR
    have ey:ys=(ds.map (isNum 0 255)).map V.bl:=by
     apply List.ext_getElem?
     intro i
     cases e:ys[i]? with
     | none=>
      have:ys.length<=i:=List.getElem?_eq_none_iff.mp e
      rw[List.getElem?_eq_none (by rw[List.length_map,List.length_map]; omega)]
     | some y=>
      obtain⟨d,h1,h2⟩:=hR i y e
      rw[List.getElem?_map,List.getElem?_map,h1,h2]
      rfl
    refine⟨D,ds.map (isNum 0 255),rfl,SqL.of (by rw[hD',ey]),?_⟩
    have:=q H' s'
    simp only[isByt]at this
    rw[List.all_map]
    exact this
  | none=>exact iteF (q H (Same.refl H))
  | bool x=>exact iteF (q H (Same.refl H))
  | int x=>exact iteF (q H (Same.refl H))
  | str x=>exact iteF (q H (Same.refl H))
  | list x=>exact iteF (q H (Same.refl H))
  | dict x=>exact iteF (q H (Same.refl H))
theorem sc_fits_kind:FnScope ["kind","body"] ["kind","body"] (defScope s_fits_kind):=‹0›
theorem ok_fits_kind {f:Addr} {fd:FuncData} (F:Fun K "fits_kind" "fits_kind" s_fits_kind f fd) (T:TxtR K mg a_KINDS C_BadRow):‹9› 1 f fd ["kind","body"] sp_fits_kind:=by
 obtain⟨_,hc_LONGEST_BODY⟩:=T.c_LONGEST_BODY
 obtain⟨_,hc_HIGHEST_TIMES⟩:=T.c_HIGHEST_TIMES
 obtain⟨_,hc_LARGEST_DEAL⟩:=T.c_LARGEST_DEAL
 refine F.okX sc_fits_kind (fun vs H Q E h=>?_) (fun cdv A outer s H vs Q E hr h=>?_)
 ·obtain⟨k,a,ns,rfl,_⟩:=h
  rfl
 ·obtain⟨k,a,ns,rfl,ha,q⟩:=h
  refine⟨_,@pss_cons _ _ _ _ _ (@ps_if _ _ _ _ _ _ _ _ (@PW.pt _ _ _ (@pw_or _ _ _ _ _ _ _ ‹49› (@pw_or1 _ _ _ _ ‹49›))) (@pss_one _ _ _ (@ps_ret _ _ _ _ (@pe_cmpR _ _ _ _ _ _ _ _ op_le ‹33› (@pe_glob _ _ (.int 60) _ _ (by rfl) hc_LONGEST_BODY ⟨_,rfl⟩ ⋯) (nomark _)))) (@pss_nil _)) (@pss_cons _ _ _ _ _ (@ps_if _ _ _ _ _ _ _ _ ‹49› (@pss_one _ _ _ (@ps_ret _ _ _ _ (@pe_and _ _ _ _ _ _ _ (@pe_chain _ _ _ _ _ _ _ _ _ _ _ _ op_le op_le ‹24› ‹33› (@pe_op _ _ _ _ _ _ _ _ op_add ‹24› (@pe_glob _ _ (.int 60) _ _ (by rfl) hc_LONGEST_BODY ⟨_,rfl⟩ ⋯)) ⋯) (@pe_one _ _ _ _ _ (@pe_cmpR _ _ _ _ _ _ _ _ op_le ‹35› (@pe_glob _ _ (.int 9) _ _ (by rfl) hc_HIGHEST_TIMES ⟨_,rfl⟩ ⋯) (nomark _)))))) (@pss_nil _)) (@pss_cons _ _ _ _ _ (@ps_if _ _ _ _ _ _ _ _ ‹49› (@pss_one _ _ _ (@ps_ret _ _ _ _ (@pe_and _ _ _ _ _ _ _ (@pe_cmpR _ _ _ _ _ _ _ _ op_eq ‹33› ‹24› (nomark _)) (@pe_one _ _ _ _ _ (@pe_chain _ _ _ _ _ _ _ _ _ _ _ _ op_le op_le ‹24› ‹35› (@pe_glob _ _ (.int 9) _ _ (by rfl) hc_LARGEST_DEAL ⟨_,rfl⟩ ⋯) ⋯))))) (@pss_nil _)) (@pss_one _ _ _ (@ps_ret _ _ _ _ (@pe_cmpR _ _ _ _ _ _ _ _ op_eq ‹33› ‹24› (nomark _)))))),?_⟩
  have hsq:SqT K H a (ns.map V.int):=SqT.of ha
  have at0:∀ x r,ns=x::r->atI (ns.map V.int) 0=some (V.int x):=fun x r e=>by
   subst e
   exact atI_nat (j:=0) rfl
  have ln:((ns.map V.int).length:Int)=(ns.length:Int):=by rw[List.length_map]
  unfold fitsK at q
  refine⟨_,rfl,rfl,_,rfl,?_⟩
  by_cases h1:k = "put"
  ·rw[if_pos (.inl h1)]at q
   rw[dstr_eq h1]
   refine iteT (iteT ⟨_,rfl,a,_,rfl,.inr hsq,_,_,rfl,rfl,?_⟩)
   have e:decide (((ns.map V.int).length:Int)<=60)=decide (ns.length<=60):=by
    apply decide_eq_decide.mpr
    rw[ln]
    omega
   show Q (.bl (decide (((ns.map V.int).length:Int)<=60))) H
   rw[e]
   exact q
  rw[dstr_ne h1]
  refine iteF ⟨_,rfl,rfl,_,rfl,?_⟩
  by_cases h2:k = "part"
  ·rw[if_pos (.inr h2)]at q
   rw[dstr_eq h2]
   refine iteT ⟨_,rfl,a,_,rfl,.inr hsq,_,_,rfl,rfl,?_⟩
   have e:decide (((ns.map V.int).length:Int)<=60)=decide (ns.length<=60):=by
    apply decide_eq_decide.mpr
    rw[ln]
    omega
   show Q (.bl (decide (((ns.map V.int).length:Int)<=60))) H
   rw[e]
   exact q
  rw[dstr_ne h2]
  rw[if_neg (by rintro (z | z); exact h1 z; exact h2 z)]at q
  refine iteF ⟨_,rfl,rfl,_,rfl,?_⟩
  by_cases h3:k = "carried"
  ·rw[if_pos h3]at q
   rw[dstr_eq h3]
   refine iteT ⟨_,rfl,a,_,rfl,.inr hsq,_,_,rfl,rfl,_,rfl,?_⟩
   by_cases l1:1<=ns.length
   ·rw[if_pos (decide_eq_true (by rw[ln]; omega))]
    rw[decide_eq_true l1,Bool.true_and]at q
    refine⟨_,_,rfl,rfl,_,_,rfl,rfl,_,rfl,?_⟩
    by_cases l2:ns.length<=61
    ·rw[if_pos (decide_eq_true (by rw[ln]; omega))]
     rw[decide_eq_true l2,Bool.true_and]at q
     match ns,l1,at0,q,hsq with
     | x::r,_,at0,q,hsq=>
      exact⟨_,rfl,a,_,_,_,rfl,rfl,hsq,at0 x r rfl,_,_,rfl,rfl,q⟩
    ·rw[if_neg (by rw[decide_eq_true_eq,ln]; omega)]
     rw[decide_eq_false l2,Bool.false_and]at q
     exact q
   ·rw[if_neg (by rw[decide_eq_true_eq,ln]; omega)]
    rw[decide_eq_false l1,Bool.false_and,Bool.false_and]at q
    exact⟨_,rfl,iteF q⟩
  rw[dstr_ne h3]
  rw[if_neg h3]at q
  refine iteF ⟨_,rfl,rfl,_,rfl,?_⟩
  by_cases h4:k = "deal"
  ·rw[if_pos h4]at q
   rw[dstr_eq h4]
   refine iteT ⟨_,rfl,a,_,rfl,.inr hsq,rfl,_,rfl,?_⟩
   match ns,at0,q,hsq with
   | [],at0,q,hsq=>exact iteF q
   | [x],at0,q,hsq=>
    refine iteT ⟨_,rfl,a,_,_,_,rfl,rfl,hsq,at0 x [] rfl,_,_,rfl,rfl,_,rfl,?_⟩
    have q:Q (.bl (decide (1<=x) && decide (x<=9))) H:=q
    by_cases l1:1<=x
    ·rw[if_pos (decide_eq_true l1)]
     rw[decide_eq_true l1,Bool.true_and]at q
     exact⟨_,_,rfl,rfl,q⟩
    ·rw[if_neg (by simpa using l1)]
     rw[decide_eq_false l1,Bool.false_and]at q
     exact q
   | x::y::r,at0,q,hsq=>
    have e:decide ((((x::y::r).length:Nat):Int)=1)=false:=decide_eq_false (by simp; omega)
    have e2:decide ((x::y::r).length=1)=false:=decide_eq_false (by simp)
    rw[e2,Bool.false_and,Bool.false_and]at q
    rw[dint_ne (by simp; omega)]
    exact iteF q
  rw[dstr_ne h4]
  rw[if_neg h4]at q
  refine iteF ⟨_,rfl,a,_,rfl,.inr hsq,rfl,?_⟩
  show Q (.bl (decide (V.int ((ns.map V.int).length:Int)=V.int 0))) H
  have e:decide (V.int ((ns.map V.int).length:Int)=V.int 0)=decide (ns.length=0):=by
   apply decide_eq_decide.mpr
   rw[ln]
   constructor
   ·intro z
    have:=V.int.inj z
    omega
   ·intro z
    rw[z]
    rfl
  rw[e]
  exact q
def intsOf:PyData->List Int
 | .tuple ds=>ds.map fun d=>match d with | .int i=>i | _=>0
 | _=>[]
def isRowD:PyData->Bool
 | .tuple [.str k,n,b]=>kinds.contains k && (isNum 0 999999 n && (isByt b && fitsK k (intsOf b)))
 | _=>false
theorem len3 {α : Type} {l:List α} (h:l.length=3):∃ a b c,l=[a,b,c]:=by
 match l,h with
 | [a,b,c],_=>exact⟨a,b,c,rfl⟩
theorem isRow_len {ds:List PyData} (h:ds.length≠3):isRowD (.tuple ds)=false:=by
 match ds,h with
 | [],_=>rfl
 | [a],_=>cases a <;> rfl
 | [a,b],_=>cases a <;> rfl
 | [_,_,_],h=>exact absurd rfl h
 | a::b::c::d::r,_=>cases a <;> rfl
theorem inV_kinds (k:Str) (ks:List Str):inV (.str k) (ks.map V.str)=ks.contains k:=by
 unfold inV
 rw[List.any_map,List.contains_eq_any_beq]
 congr 1
 funext y
 show (y == k)=(k == y)
 exact Bool.beq_comm
theorem flat_strs (ks:List Str):(ks.map V.str).all flatV=true:=by
 rw[List.all_map]
 exact List.all_eq_true.mpr fun _ _=>rfl
theorem byt_ints {H:Hp}:∀ {bs:List PyData} {xs:List V},Dens H bs xs->bs.all (isNum 0 255)=true->xs=(intsOf (.tuple bs)).map V.int
 | [],xs,h,_=>by
  simp only[Dens]at h
  subst h
  rfl
 | d::bs,xs,h,e=>by
  simp only[Dens]at h
  obtain⟨x,r,e1,h1,h2⟩:=h
  rw[List.all_cons,Bool.and_eq_true]at e
  have e2:=byt_ints h2 e.2
  cases d with
  | int i=>
   simp only[Den]at h1
   rw[e1,h1,e2]
   rfl
  | _=>exact absurd e.1 (by simp [isNum])
def sp_is_row:Sp:=fun vs H Q _=>∃ v d,vs=[v]/\Den H d v/\(∀ k n bs,d = .tuple [k,n,.tuple bs]->bs.length<=sizeLine)/\∀ H',Same H H'->Q (.bl (isRowD d)) H'
theorem sc_is_row:FnScope ["thing","kind"] ["thing"] (defScope s_is_row):=‹0›
set_option maxHeartbeats 1000000 in
theorem ok_is_row {f:Addr} {fd:FuncData} (F:Fun K "is_row" "is_row" s_is_row f fd) (T:TxtR K mg a_KINDS C_BadRow) (c_is_number:‹5›)
  (c_is_bytes:‹10› "is_bytes" 2 ["thing"] sp_is_bytes) (c_fits_kind:‹10› "fits_kind" 1 ["kind","body"] sp_fits_kind):‹9› 3 f fd ["thing"] sp_is_row:=by
 obtain⟨_,hc_HIGHEST_NUMBER⟩:=T.c_HIGHEST_NUMBER
 refine F.okX sc_is_row (fun vs H Q E h=>?_) (fun cdv A outer s H vs Q E hr h=>?_)
 ·obtain⟨v,d,rfl,_⟩:=h
  rfl
 ·obtain⟨v,d,rfl,hd,hz,q⟩:=h
  refine⟨_,@pss_cons _ _ _ _ _ (@ps_if _ _ _ _ _ _ _ _ (@PW.pt _ _ _ (@pw_or _ _ _ _ _ _ _ (@pt_not _ _ _ _ (@pt_val _ _ _ ‹42› ⋯)) (@pw_or1 _ _ _ _ (@pt_cmpR _ _ _ _ _ _ _ _ op_ne ‹34› ‹24› (nomark _))))) ‹27› (@pss_nil _)) (@pss_cons _ _ _ _ _ (@ps_set _ _ (1) _ _ _ _ sc_is_row.nd (by rfl) (by first | exact Or.inl (by rfl) | exact Or.inr (by rfl)) ‹36› ⋯ ⋯) (@pss_cons _ _ _ _ _ (@ps_if _ _ _ _ _ _ _ _ (@PW.pt _ _ _ (@pw_or _ _ _ _ _ _ _ (@pt_not _ _ _ _ (@pt_val _ _ _ (@pe_callB _ _ _ _ _ _ _ _ _ (call_isiK K) (by rfl) T.n_isinstance bt_isinstance (@pa_Name _ _ _ _ _ _ ‹21› (@pa_Name _ _ _ _ _ _ (@pe_bltn _ _ (.ty "str") _ _ (by rfl) T.n_str bt_str (by rfl) ⋯ ⋯) (@pa_nil _))) ⋯ ⋯ ⋯ ⋯) ⋯)) (@pw_or1 _ _ _ _ (@pt_cmpR _ _ _ _ _ _ _ _ (op_notInK K) ‹21› (@pe_glob _ _ (.ref a_KINDS) _ _ (by rfl) T.c_KINDS (by rfl) ⋯) (by rfl))))) ‹27› (@pss_nil _)) (@pss_one _ _ _ (@ps_ret _ _ _ _ (@pe_and _ _ _ _ _ _ _ (@pe_fn _ _ _ _ _ _ _ _ _ _ _ c_is_number ‹15› passN (@pa_Subscript _ _ _ _ _ _ _ ‹36› (@pa_Constant _ _ _ _ _ _ _ ‹24› (@pa_Name _ _ _ _ _ _ (@pe_glob _ _ (.int 999999) _ _ (by rfl) hc_HIGHEST_NUMBER ⟨_,rfl⟩ ⋯) (@pa_nil _)))) ⋯ ⋯ ⋯ ⋯) (@pe_and _ _ _ _ _ _ _ (@pe_fn _ _ _ _ _ _ _ _ _ _ _ c_is_bytes ‹15› passN (@pa_Subscript _ _ _ _ _ _ _ ‹36› (@pa_nil _)) ⋯ ⋯ ⋯ ⋯) (@pe_one _ _ _ _ _ (@pe_fn _ _ _ _ _ _ _ _ _ _ _ c_fits_kind ‹15› passN (@pa_Name _ _ _ _ _ _ ‹21› (@pa_Subscript _ _ _ _ _ _ _ ‹36› (@pa_nil _))) ⋯ ⋯ ⋯ ⋯)))))))),?_⟩
  refine⟨_,rfl,_,_,_,_,rfl,hd.ty,kit_tuple d,_,rfl,?_⟩
  cases d with
  | none=>exact iteT (iteT (q H (Same.refl H)))
  | bool x=>exact iteT (iteT (q H (Same.refl H)))
  | int x=>exact iteT (iteT (q H (Same.refl H)))
  | str x=>exact iteT (iteT (q H (Same.refl H)))
  | list x=>exact iteT (iteT (q H (Same.refl H)))
  | dict x=>exact iteT (iteT (q H (Same.refl H)))
  | tuple ds=>
   have hd':=hd
   simp only[Den]at hd'
   obtain⟨a,xs,rfl,ha,hds⟩:=hd'
   have hl:=hds.length
   by_cases h3:ds.length=3
   ·obtain⟨d0,d1,d2,rfl⟩:=len3 h3
    obtain⟨x0,x1,x2,rfl⟩:=len3 (hl.trans h3)
    ·refine iteF ⟨_,rfl,a,_,rfl,.inr (SqT.of ha),rfl,_,rfl,?_⟩
     refine iteF ?_
     simp only[Dens]at hds
     obtain⟨y0,r0,e0,k0,y1,r1,e1,k1,y2,r2,e2,k2,e3⟩:=hds
     subst e3
     cases e2
     cases e1
     cases e0
     have sq:SqT K H a [x0,x1,x2]:=SqT.of ha
     refine⟨_,rfl,a,_,_,_,rfl,rfl,sq,atI_nat (j:=0) rfl,?_⟩
     refine⟨_,rfl,_,_,_,_,rfl,k0.ty,kit_str d0,_,rfl,?_⟩
     cases d0 with
     | none=>exact iteT (iteT (q H (Same.refl H)))
     | bool x=>exact iteT (iteT (q H (Same.refl H)))
     | int x=>exact iteT (iteT (q H (Same.refl H)))
     | tuple x=>exact iteT (iteT (q H (Same.refl H)))
     | list x=>exact iteT (iteT (q H (Same.refl H)))
     | dict x=>exact iteT (iteT (q H (Same.refl H)))
     | str k=>
      simp only[Den]at k0
      subst k0
      refine iteF ⟨_,rfl,a_KINDS,_,rfl,.inr (T.k_KINDS H),rfl,flat_strs kinds,_,rfl,?_⟩
      rw[if_pos rfl,inV_kinds]
      simp only[isRowD]at q
      cases hk:kinds.contains k with
      | false=>
       rw[hk]at q
       exact iteT (q H (Same.refl H))
      | true=>
       rw[hk]at q
       refine iteF ?_
       refine⟨_,rfl,a,_,_,_,rfl,rfl,sq,atI_nat (j:=1) rfl,x1,d1,0,999999,rfl,k1,_,rfl,?_⟩
       cases hn:isNum 0 999999 d1 with
       | false=>
        rw[hn]at q
        exact iteF (q H (Same.refl H))
       | true=>
        rw[hn]at q
        refine iteT ⟨_,rfl,a,_,_,_,rfl,rfl,sq,atI_nat (j:=2) rfl,x2,d2,rfl,k2,fun bs e=>hz _ _ bs (by rw[e]),fun H' s'=>⟨_,rfl,?_⟩⟩
        cases hb:isByt d2 with
        | false=>
         rw[hb]at q
         exact iteF (q H' s')
        | true=>
         rw[hb]at q
         cases d2 with
         | tuple bs=>
          simp only[Den]at k2
          obtain⟨a2,ys,rfl,ha2,hbs⟩:=k2
          have ei:=byt_ints hbs hb
          subst ei
          refine iteT ⟨_,rfl,_,rfl,a,_,_,_,rfl,rfl,s'.seqT sq,atI_nat (j:=2) rfl,k,a2,_,rfl,s' _ _ ha2,q H' s'⟩
         | _=>exact absurd hb (by simp [isByt])
   ·have e:(!decide (V.int (xs.length:Int)=V.int 3))=true:=by
     rw[hl,dint_ne (by omega)]
     rfl
    have q':=q H (Same.refl H)
    rw[isRow_len h3]at q'
    refine iteF ⟨_,rfl,a,_,rfl,.inr (SqT.of ha),rfl,_,rfl,?_⟩
    rw[e]
    exact iteT q'
def checksF (ns:List Int):Int × Int:=(ns.sum % 256,((List.range ns.length).map fun(i:Nat)=>(1+(i:Int)) * ns.getD i 0).sum % 256)
def sp_checks_of:Sp:=fun vs H Q _=>∃ a ns,vs=[.ref a]/\H a=some (.tup (ns.map V.int))/\ns.length<=1000/\∀ p H',Same H H'->H' p=some (.tup [.int (checksF ns).1,.int (checksF ns).2])->Q (.ref p) H'
theorem sc_checks_of:FnScope ["behind","plain","weighed"] ["behind"] (defScope s_checks_of):=‹0›
set_option maxHeartbeats 1000000 in
theorem ok_checks_of {f:Addr} {fd:FuncData} (F:Fun K "checks_of" "checks_of" s_checks_of f fd) (T:TxtR K mg a_KINDS C_BadRow):‹9› 1 f fd ["behind"] sp_checks_of:=by
 refine F.okX sc_checks_of (fun vs H Q E h=>?_) (fun cdv A outer s H vs Q E hr h=>?_)
 ·obtain⟨a,ns,rfl,_⟩:=h
  rfl
 ·obtain⟨a,ns,rfl,ha,hl,q⟩:=h
  refine⟨_,@pss_cons _ _ _ _ _ (@ps_set _ _ (1) _ _ _ _ sc_checks_of.nd (by rfl) (by first | exact Or.inl (by rfl) | exact Or.inr (by rfl)) (@pe_callB _ _ _ _ _ _ _ _ _ (call_sumK K) (by rfl) T.n_sum bt_sum ‹37› ⋯ ⋯ ⋯ ⋯) ⋯ ⋯) (@pss_cons _ _ _ _ _ (@ps_set _ _ (2) _ _ _ _ sc_checks_of.nd (by rfl) (by first | exact Or.inl (by rfl) | exact Or.inr (by rfl)) (@pe_callB _ _ _ _ _ _ _ _ _ (call_sumK K) (by rfl) T.n_sum bt_sum (@pa_ListComp _ _ _ _ _ _ _ _ (@pe_comp _ _ _ _ _ _ _ _ _ _ _ ["place","one"] [] (by rfl) (@pi_enum1K _ K _ _ _ _ _ _ _ _ _ _ T.n_enumerate ‹20› ⋯ ⋯ ⋯) (fun C s2 H2 ex=>(@pg_tupK _ K _ _ _ (2) _ (@pgs_cons _ _ _ _ _ (@pg_name _ _ (0) _ (show List.Nodup (["place","one"]:List Str) by decide +kernel) (by rfl) (Or.inl (by rfl)) ⋯) (@pgs_cons _ _ _ _ _ (@pg_name _ _ (1) _ (show List.Nodup (["place","one"]:List Str) by decide +kernel) (by rfl) (Or.inl (by rfl)) ⋯) (@pgs_nil _) ⋯) ⋯) ⋯ ⋯ ⋯ ⋯)) ‹31› (fun C s2 H2 ex=>(@pe_op _ _ _ _ _ _ _ _ op_mul ‹20› ‹21›)) ⋯ ⋯ ⋯ ⋯) (@pa_nil _)) ⋯ ⋯ ⋯ ⋯) ⋯ ⋯) (@pss_one _ _ _ (@ps_ret _ _ _ _ (@pe_tup _ _ _ _ _ (@pa_BinOp _ _ _ _ _ _ _ _ (@pe_op _ _ _ _ _ _ _ _ op_mod ‹21› ‹24›) (@pa_BinOp _ _ _ _ _ _ _ _ (@pe_op _ _ _ _ _ _ _ _ op_mod ‹25› ‹24›) (@pa_nil _))))))),?_⟩
  have sq:SqT K H a (ns.map V.int):=SqT.of ha
  refine⟨_,rfl,a,ns,rfl,.inr sq,?_⟩
  refine⟨_,rfl,a,_,rfl,sq,?_⟩
  refine comp_src (src_enum (K:=K) 1 sq) (by rw[List.length_map]; exact Nat.le_trans hl (by decide)) (fun i y _=>y = .int ((1+(i:Int)) * ns.getD i 0)) (fun _ _ _ _ _ h=>h) (fun σ=>σ.length=2) ?z0 ?_ ?_
  case z0=>rfl
  ·intro i x σc H3 hi hσ s3 hx Q' hQ'
   obtain⟨p,v,rfl,hp,hv⟩:=hx
   rw[List.length_map]at hi
   rw[List.getElem?_map,List.getElem?_eq_getElem hi]at hv
   cases hv
   match σc,hσ with
   | [z1,z2],_=>
    refine⟨p,_,rfl,SqT.of hp,rfl,_,_,rfl,_,_,rfl,rfl,?_⟩
    refine⟨_,rfl,_,rfl,_,_,rfl,rfl,.inl ⟨by omega,by omega⟩,?_⟩
    refine hQ' _ _ _ rfl (Same.refl _) ?_
    rw[List.getD_eq_getElem?_getD,List.getElem?_eq_getElem hi]
    rfl
  ·intro D ys H' hD s' hD' hlen hR
   have ey:ys=((List.range ns.length).map fun(i:Nat)=>(1+(i:Int)) * ns.getD i 0).map V.int:=by
    apply List.ext_getElem?
    intro i
    rw[List.length_map]at hlen
    cases e:ys[i]? with
    | none=>
     have:ys.length<=i:=List.getElem?_eq_none_iff.mp e
     rw[List.getElem?_eq_none (by rw[List.length_map,List.length_map,List.length_range]; omega)]
    | some y=>
     have hi:i<ns.length:=by
      have:=(List.getElem?_eq_some_iff.mp e).1
      omega
     rw[hR i y e,List.getElem?_map,List.getElem?_map,List.getElem?_range hi]
     rfl
   refine⟨D,_,rfl,.inl (SqL.of (by rw[hD',ey])),?_⟩
   refine⟨_,rfl,_,_,rfl,rfl,(by show (0:Int)<256; decide),_,rfl,_,_,rfl,rfl,(by show (0:Int)<256; decide),(by show 2<=sizeLine; decide),fun p hp=>?_⟩
   exact q p _ (s'.trans (same_upd hp)) upd_same
end
end Qh
end
section
namespace Qh
open PySem L2
section
variable {P:Program} {w:World} {K:PySem.W.Frag} {mg:Str->Option Value} {base:Heap} {a_KINDS C_BadRow:Addr}
def behindF (k:Str) (n:Int) (ns:List Int):List Int:=[(kinds.idxOf k:Int)+1]++[n / 65536,n / 256 % 256,n % 256]++[(ns.length:Int)]++ns
def rowB (k:Str) (n:Int) (ns:List Int):List Int:=[(checksF (behindF k n ns)).1,(checksF (behindF k n ns)).2]++behindF k n ns
def rowBD:PyData->List Int
 | .tuple [.str k,.int n,b]=>rowB k n (intsOf b)
 | _=>[]
theorem isRow_form {d:PyData} (h:isRowD d=true):∃ k n bs,d = .tuple [.str k,.int n,.tuple bs]/\kinds.contains k=true/\0<=n/\n<=999999/\bs.all (isNum 0 255)=true/\fitsK k (intsOf (.tuple bs))=true:=by
 cases d with
 | tuple ds=>
  by_cases h3:ds.length=3
  ·obtain⟨d0,d1,d2,rfl⟩:=len3 h3
   cases d0 with
   | str k=>
    simp only[isRowD,Bool.and_eq_true]at h
    obtain⟨h1,h2,h4,h5⟩:=h
    cases d1 with
    | int n=>
     simp only[isNum,Bool.and_eq_true,decide_eq_true_eq]at h2
     cases d2 with
     | tuple bs=>exact⟨k,n,bs,rfl,h1,h2.1,h2.2,h4,h5⟩
     | _=>simp [isByt]at h4
    | _=>simp [isNum]at h2
   | _=>cases h
  ·rw[isRow_len h3]at h
   cases h
 | _=>cases h
theorem idx_kinds {k:Str} (h:kinds.contains k=true):kinds[kinds.idxOf k]? = some k/\∀ i,i<kinds.idxOf k->kinds[i]? ≠ some k:=by
 have hm:k∈kinds:=by simpa using h
 have hl:=List.idxOf_lt_length_of_mem hm
 refine⟨by rw[List.getElem?_eq_getElem hl,List.getElem_idxOf],fun i hi e=>?_⟩
 have:=List.not_of_lt_findIdx (p:=(· == k)) (xs:=kinds) (i:=i) hi
 have hi2:i<kinds.length:=Nat.lt_trans hi hl
 rw[List.getElem?_eq_getElem hi2]at e
 have e:=Option.some.inj e
 rw[e]at this
 simp at this
theorem fits_len {k:Str} {ns:List Int} (h:fitsK k ns=true):ns.length<=61:=by
 unfold fitsK at h
 split at h
 ·have:=of_decide_eq_true h
  omega
 ·split at h
  ·simp only[Bool.and_eq_true,decide_eq_true_eq]at h
   omega
  ·split at h
   ·simp only[Bool.and_eq_true,decide_eq_true_eq]at h
    omega
   ·have:=of_decide_eq_true h
    omega
end
abbrev s_row_bytes:Stmt:=top 30
section
variable {P:Program} {w:World} {K:PySem.W.Frag} {mg:Str->Option Value} {base:Heap} {a_KINDS C_BadRow:Addr}
def sp_row_bytes (C_BadRow:Addr):Sp:=fun vs H Q E=>∃ v d,vs=[v]/\Den H d v/\(∀ k n bs,d = .tuple [k,n,.tuple bs]->bs.length<=sizeLine)/\
 (isRowD d=true->∀ p H',Same H H'->H' p=some (.tup ((rowBD d).map V.int))->Q (.ref p) H')/\(isRowD d=false->∀ H',Same H H'->E (.ref C_BadRow) none H')
theorem sc_row_bytes:FnScope ["row","number","body","figures","behind"] ["row"] (defScope s_row_bytes):=‹0›
set_option maxHeartbeats 1000000 in
theorem ok_row_bytes {f:Addr} {fd:FuncData} (F:Fun K "row_bytes" "row_bytes" s_row_bytes f fd) (T:TxtR K mg a_KINDS C_BadRow) (c_is_row:‹10› "is_row" 3 ["thing"] sp_is_row)
  (c_checks_of:‹10› "checks_of" 1 ["behind"] sp_checks_of):‹9› 4 f fd ["row"] (sp_row_bytes C_BadRow):=by
 refine F.okX sc_row_bytes (fun vs H Q E h=>?_) (fun cdv A outer s H vs Q E hr h=>?_)
 ·obtain⟨v,d,rfl,_⟩:=h
  rfl
 ·obtain⟨v,d,rfl,hd,hz,q,qe⟩:=h
  refine⟨_,@pss_cons _ _ _ _ _ (@ps_if _ _ _ _ _ _ _ _ (@pt_not _ _ _ _ (@pt_val _ _ _ (@pe_fn _ _ _ _ _ _ _ _ _ _ _ c_is_row ‹15› passN ‹37› ⋯ ⋯ ⋯ ⋯) ⋯)) ‹44› (@pss_nil _)) (@pss_cons _ _ _ _ _ (@ps_set _ _ (1) _ _ _ _ sc_row_bytes.nd (by rfl) (by first | exact Or.inl (by rfl) | exact Or.inr (by rfl)) ‹36› ⋯ ⋯) (@pss_cons _ _ _ _ _ (@ps_set _ _ (2) _ _ _ _ sc_row_bytes.nd (by rfl) (by first | exact Or.inl (by rfl) | exact Or.inr (by rfl)) ‹36› ⋯ ⋯) (@pss_cons _ _ _ _ _ (@ps_set _ _ (3) _ _ _ _ sc_row_bytes.nd (by rfl) (by first | exact Or.inl (by rfl) | exact Or.inr (by rfl)) (@pe_tup _ _ _ _ _ (@pa_BinOp _ _ _ _ _ _ _ _ (@pe_op _ _ _ _ _ _ _ _ op_fdiv ‹21› ‹24›) (@pa_BinOp _ _ _ _ _ _ _ _ (@pe_op _ _ _ _ _ _ _ _ op_mod (@pe_op _ _ _ _ _ _ _ _ op_fdiv ‹21› ‹24›) ‹24›) (@pa_BinOp _ _ _ _ _ _ _ _ (@pe_op _ _ _ _ _ _ _ _ op_mod ‹21› ‹24›) (@pa_nil _))))) ⋯ ⋯) (@pss_cons _ _ _ _ _ (@ps_set _ _ (4) _ _ _ _ sc_row_bytes.nd (by rfl) (by first | exact Or.inl (by rfl) | exact Or.inr (by rfl)) (@pe_op _ _ _ _ _ _ _ _ op_cat2 (@pe_op _ _ _ _ _ _ _ _ op_cat2 (@pe_op _ _ _ _ _ _ _ _ op_cat2 (@pe_tup _ _ _ _ _ (@pa_BinOp _ _ _ _ _ _ _ _ (@pe_op _ _ _ _ _ _ _ _ op_add (@pe_bmT _ _ _ _ _ _ _ _ _ _ _ K PySem.F.slot_tuple_index PySem.F.type_tuple_index (mt_indexK K) (@pe_glob _ _ (.ref a_KINDS) _ _ (by rfl) T.c_KINDS (by rfl) ⋯) (@pa_Subscript _ _ _ _ _ _ _ ‹36› (@pa_nil _)) ⋯ ⋯ ⋯ ⋯ ⋯ ⋯) ‹24›) (@pa_nil _))) ‹26›) (@pe_tup _ _ _ _ _ (@pa_Call _ _ _ _ _ _ _ _ (@pe_callB _ _ _ _ _ _ _ _ _ (call_lenK K) (by rfl) T.n_len bt_len ‹47› ⋯ ⋯ ⋯ ⋯) (@pa_nil _)))) ‹25›) ⋯ ⋯) (@pss_one _ _ _ (@ps_ret _ _ _ _ (@pe_op _ _ _ _ _ _ _ _ op_cat2 (@pe_fn _ _ _ _ _ _ _ _ _ _ _ c_checks_of ‹15› passN (@pa_Name _ _ _ _ _ _ ‹28› (@pa_nil _)) ⋯ ⋯ ⋯ ⋯) ‹28›))))))),?_⟩
  refine⟨_,rfl,v,d,rfl,hd,hz,fun H1 s1=>⟨_,rfl,?_⟩⟩
  cases hb:isRowD d with
  | false=>exact iteT ⟨(by show 1<=sizeLine; decide),qe hb H1 s1⟩
  | true=>
   refine iteF ?_
   obtain⟨k,n,bs,rfl,hk,n0,n9,hbs,hf⟩:=isRow_form hb
   have hd1:=hd.same s1
   simp only[Den,Dens]at hd1
   obtain⟨a,xs,rfl,ha,y0,r0,e0,k0,y1,r1,e1,k1,y2,r2,e2,⟨a2,ys,k2,ha2,h2⟩,e3⟩:=hd1
   subst e3 k0 k1 k2
   subst e2
   subst e1
   subst e0
   have ei:=byt_ints h2 hbs
   subst ei
   have fl:=fits_len hf
   have sq:SqT K H1 a [.str k,.int n,.ref a2]:=SqT.of ha
   obtain⟨i1,i2⟩:=idx_kinds hk
   refine⟨_,rfl,a,_,_,_,rfl,rfl,sq,atI_nat (j:=1) rfl,?_⟩
   refine⟨_,rfl,a,_,_,_,rfl,rfl,sq,atI_nat (j:=2) rfl,?_⟩
   refine⟨_,rfl,_,_,rfl,rfl,⟨by decide,by decide⟩,_,rfl,_,_,rfl,rfl,⟨by decide,by decide⟩,_,_,rfl,rfl,(by show (0:Int)<256; decide),_,rfl,_,_,rfl,rfl,(by show (0:Int)<256; decide),(by show 3<=sizeLine; decide),fun p3 hp3=>?_⟩
   have S2:=same_upd (o:=.tup [.int (n / 65536),.int (n / 256 % 256),.int (n % 256)]) hp3
   refine⟨⟨a_KINDS,rfl,.inr T.l_KINDS⟩,_,rfl,a,_,_,_,rfl,rfl,S2.seqT sq,atI_nat (j:=0) rfl,a_KINDS,kinds,k,kinds.idxOf k,rfl,rfl,T.k_KINDS _,i1,i2,?_⟩
   refine⟨_,_,rfl,rfl,(by show 1<=sizeLine; decide),fun p4 hp4=>?_⟩
   have S3:=same_upd (o:=.tup [V.int ((kinds.idxOf k:Int)+1)]) hp4
   refine⟨_,rfl,p4,p3,_,_,rfl,rfl,upd_same,S3 _ _ upd_same,(by show 1+3<=sizeLine; decide),fun p5 H5 S5 g5=>?_⟩
   have g2:H5 a2=some (.tup ((intsOf (.tuple bs)).map V.int)):=S5 _ _ (S3 _ _ (S2 _ _ ha2))
   refine⟨_,rfl,a2,_,rfl,.inr (SqT.of g2),(by show 1<=sizeLine; decide),fun p6 hp6=>?_⟩
   have S6:=same_upd (o:=.tup [V.int (((intsOf (.tuple bs)).map V.int).length:Int)]) hp6
   refine⟨p5,p6,_,_,rfl,rfl,S6 _ _ g5,upd_same,(by show 4+1<=sizeLine; decide),fun p7 H7 S7 g7=>?_⟩
   have zl:(100:Nat)<=sizeLine:=by decide
   refine⟨_,rfl,p7,a2,_,_,rfl,rfl,g7,S7 _ _ (S6 _ _ g2),?_,fun p8 H8 S8 g8=>?_⟩
   ·show 5+((intsOf (.tuple bs)).map V.int).length<=sizeLine
    rw[List.length_map]
    omega
   have eb:([V.int ((kinds.idxOf k:Int)+1)]++[V.int (n / 65536),V.int (n / 256 % 256),V.int (n % 256)]++[V.int (((intsOf (.tuple bs)).map V.int).length:Int)]++(intsOf (.tuple bs)).map V.int)=(behindF k n (intsOf (.tuple bs))).map V.int:=by
    unfold behindF
    rw[List.length_map]
    simp
   have g8':H8 p8=some (.tup ((behindF k n (intsOf (.tuple bs))).map V.int)):=by rw[<- eb]; exact g8
   have lb:(behindF k n (intsOf (.tuple bs))).length=5+(intsOf (.tuple bs)).length:=by
    unfold behindF
    simp
    omega
   refine⟨_,rfl,p8,_,rfl,g8',by omega,fun p9 H9 S9 g9=>?_⟩
   refine⟨_,rfl,p9,p8,_,_,rfl,rfl,g9,S9 _ _ g8',?_,fun p10 H10 S10 g10=>?_⟩
   ·show 2+((behindF k n (intsOf (.tuple bs))).map V.int).length<=sizeLine
    rw[List.length_map]
    omega
   refine q hb p10 H10 (s1.trans (S2.trans (S3.trans (S5.trans (S6.trans (S7.trans (S8.trans (S9.trans S10)))))))) ?_
   rw[g10]
   simp only[rowBD,rowB,List.map_append]
   rfl
end
end Qh
end
section
namespace Qh
open PySem L2
theorem ints_int (ns:List Int):intsOf (.tuple (ns.map .int))=ns:=by
 show (ns.map PyData.int).map _=ns
 rw[List.map_map]
 exact List.map_id _
theorem byt_all {ns:List Int} (h:∀ b∈ns,0<=b/\b<=255):isByt (.tuple (ns.map .int))=true:=by
 show (ns.map PyData.int).all (isNum 0 255)=true
 rw[List.all_map,List.all_eq_true]
 intro b hb
 have:=h b hb
 show (decide (0<=b) && decide (b<=255))=true
 rw[decide_eq_true this.1,decide_eq_true this.2]
 rfl
theorem go_next {n:St->Hp->Prop} {D:Ends} {σ : St} {H:Hp} (e:D.nx=n) (h:n σ H):tNext D σ H:=by
 subst e
 exact h
theorem le_size {n:Nat} (h:n<=100:=by exact Nat.le_of_ble_eq_true rfl):n<=sizeLine:=Nat.le_trans h (by decide)
def rowOf (ns:List Int):Option PyData:=
 if ns.take 2=[(checksF (ns.drop 2)).1,(checksF (ns.drop 2)).2] then
  if 1<=ns.getD 2 0/\ns.getD 2 0<=8 then
   let d:PyData:=.tuple [.str (kinds.getD (ns.getD 2 0 - 1).toNat "put"),.int (ns.getD 3 0 * 65536+ns.getD 4 0 * 256+ns.getD 5 0),.tuple ((ns.drop 7).map .int)]
   if isRowD d=true then some d else none
  else none
 else none
def endL (ns:List Int):Option Nat:=if ns.length<7 then none else if 7+(ns.getD 6 0).toNat<=ns.length then some (7+(ns.getD 6 0).toNat) else none
def readL:Nat->List Int->Option (List PyData × Nat)
 | 0,_=>none
 | f+1,ns=>match endL ns with
  | none=>some ([],ns.length)
  | some e=>match rowOf (ns.take e) with
   | none=>none
   | some d=>(readL f (ns.drop e)).map fun r=>(d::r.1,r.2)
theorem endL_le {ns:List Int} {e:Nat} (h:endL ns=some e):7<=e/\e<=ns.length:=by
 unfold endL at h
 split at h
 ·cases h
 ·split at h
  ·have:=Option.some.inj h
   omega
  ·cases h
theorem rowOf_tup {ns:List Int} {d:PyData} (h:rowOf ns=some d):tupD d=true:=by
 have tl:∀ l:List Int,tupDs (l.map PyData.int)=true:=by
  intro l
  induction l with
  | nil=>rfl
  | cons x l ih=>exact ih
 unfold rowOf at h
 split at h
 ·split at h
  ·dsimp only at h
   split at h
   ·have e:=Option.some.inj h
    rw[<- e]
    simp only[tupD,tupDs,Bool.true_and,Bool.and_true]
    exact tl _
   ·cases h
  ·cases h
 ·cases h
theorem kind_idx:∀ k∈kinds,kinds.getD (kinds.idxOf k) "put" = k/\kinds.idxOf k<8:=by decide +kernel
theorem rowOf_rowB {k:Str} {n:Int} {ns:List Int} (hr:isRowD (.tuple [.str k,.int n,.tuple (ns.map .int)])=true):rowOf (rowB k n ns)=some (.tuple [.str k,.int n,.tuple (ns.map .int)]):=by
 obtain⟨k',n',bs,e,hk,n0,n9,hb,hf⟩:=isRow_form hr
 injection e with e
 injection e with e1 e
 injection e with e2 e
 injection e1 with e1
 injection e2 with e2
 subst e1 e2
 obtain⟨i1,i2⟩:=kind_idx k (by simpa using hk)
 have e7:(rowB k n ns).drop 7=ns:=rfl
 have e2:(rowB k n ns).drop 2=behindF k n ns:=rfl
 have g2:(rowB k n ns).getD 2 0=(kinds.idxOf k:Int)+1:=rfl
 have g3:(rowB k n ns).getD 3 0=n / 65536:=rfl
 have g4:(rowB k n ns).getD 4 0=n / 256 % 256:=rfl
 have g5:(rowB k n ns).getD 5 0=n % 256:=rfl
 have en:n / 65536 * 65536+n / 256 % 256 * 256+n % 256=n:=by omega
 have ek:((kinds.idxOf k:Int)+1 - 1).toNat=kinds.idxOf k:=by omega
 unfold rowOf
 rw[e2,if_pos (show (rowB k n ns).take 2=[(checksF (behindF k n ns)).1,(checksF (behindF k n ns)).2] from rfl),g2,g3,g4,g5,e7,if_pos ⟨by omega,by omega⟩,en,ek,i1]
 dsimp only
 rw[if_pos hr]
theorem rowB_len (k:Str) (n:Int) (ns:List Int):(rowB k n ns).length=7+ns.length:=by
 unfold rowB behindF
 simp
 omega
theorem rowB_six (k:Str) (n:Int) (ns tl:List Int):(rowB k n ns++tl).getD 6 0=(ns.length:Int):=rfl
theorem endL_row (k:Str) (n:Int) (ns tl:List Int):endL (rowB k n ns++tl)=some (7+ns.length):=by
 unfold endL
 have hl:=rowB_len k n ns
 rw[rowB_six,List.length_append,hl,if_neg (by omega),if_pos (by omega)]
 rfl
theorem readL_row {k:Str} {n:Int} {ns tl:List Int} {f:Nat} (hr:isRowD (.tuple [.str k,.int n,.tuple (ns.map .int)])=true) :
  readL (f+1) (rowB k n ns++tl)=(readL f tl).map fun r=>(.tuple [.str k,.int n,.tuple (ns.map .int)]::r.1,r.2):=by
 have hl:=rowB_len k n ns
 have e1:(rowB k n ns++tl).take (7+ns.length)=rowB k n ns:=by rw[<- hl]; exact List.take_left
 have e2:(rowB k n ns++tl).drop (7+ns.length)=tl:=by rw[<- hl]; exact List.drop_left
 show (match endL (rowB k n ns++tl) with
  | none=>some ([],(rowB k n ns++tl).length)
  | some e=>match rowOf ((rowB k n ns++tl).take e) with
   | none=>none
   | some d=>(readL f ((rowB k n ns++tl).drop e)).map fun(r:List PyData × Nat)=>(d::r.1,r.2))=_
 rw[endL_row]
 dsimp only
 rw[e1,e2,rowOf_rowB hr]
abbrev s_row_end:Stmt:=top 31
abbrev s_row_from:Stmt:=top 32
abbrev s_rows_in:Stmt:=top 33
structure TxtB (K:PySem.W.Frag) (mg:Str->Option Value) (a_KINDS C_BadRow C_Broken:Addr):Prop extends TxtR K mg a_KINDS C_BadRow where
 n_list:mg "list" = none
 c_CHECKS_SIZE:∃ t,mg "CHECKS_SIZE" = some (.int 2 t)
 c_HEAD_SIZE:∃ t,mg "HEAD_SIZE" = some (.int 7 t)
 x_Broken:excIn K C_Broken=true
 m_Broken:mg "Broken" = some (.ref C_Broken)
def endV (st:Nat):Option Nat->V
 | none=>.non
 | some e=>.int ((st+e:Nat):Int)
def bytesOk (ns:List Int):Prop:=∀ b∈ns,0<=b/\b<=255
def sp_row_end:Sp:=fun vs H Q _=>∃ (a:Addr) (ns:List Int) (st:Nat),vs=[.ref a,.int (st:Int)]/\H a=some (.tup (ns.map V.int))/\bytesOk ns/\st<=ns.length/\Q (endV st (endL (ns.drop st))) H
def sp_row_from (C_Broken:Addr):Sp:=fun vs H Q E=>∃ (a:Addr) (ns:List Int),vs=[.ref a]/\H a=some (.tup (ns.map V.int))/\7<=ns.length/\ns.length<=300/\
 (∀ d,rowOf ns=some d->∀ p H',Same H H'->Den H' d (.ref p)->Q (.ref p) H')/\(rowOf ns=none->∀ H',Same H H'->E (.ref C_Broken) none H')
theorem cut_nat {xs:List V} {lo hi:Nat} (h1:lo<=hi) (h2:hi<=xs.length):cutV xs (some (lo:Int)) (some (hi:Int))=(xs.drop lo).take (hi - lo):=by
 unfold cutV
 rw[HT.sIx_nat,HT.sIx_nat,Nat.min_eq_left (show lo<=xs.length by omega),Nat.min_eq_left h2]
theorem cut_from {xs:List V} {lo:Nat} (h:lo<=xs.length):cutV xs (some (lo:Int)) none=xs.drop lo:=by
 unfold cutV
 rw[HT.sIx_nat,HT.sIx_none,Nat.min_eq_left h,List.take_of_length_le (by rw[List.length_drop]; omega)]
theorem cut_to {xs:List V} {hi:Nat} (h:hi<=xs.length):cutV xs none (some (hi:Int))=xs.take hi:=by
 unfold cutV
 rw[HT.sIx_nat,HT.sIx_none,Nat.min_eq_left h,List.drop_zero,Nat.sub_zero]
theorem kinds_at {i:Int} (h0:0<=i) (h:i<8):atI (kinds.map V.str) i=some (.str (kinds.getD i.toNat "put")):=by
 have k1:i.toNat<kinds.length:=by show _<8; omega
 refine atI_pos h0 ?_
 rw[List.getElem?_map,List.getD_eq_getElem?_getD,List.getElem?_eq_getElem k1]
 rfl
theorem getD_get {ns:List Int} {i:Nat} (h:i<ns.length):ns[i]? = some (ns.getD i 0):=by
 rw[List.getD_eq_getElem?_getD,List.getElem?_eq_getElem h]
 rfl
theorem at_int {ns:List Int} {i:Nat} (h:i<ns.length):(ns.map V.int)[i]? = some (.int (ns.getD i 0)):=by
 rw[List.getElem?_map,getD_get h]
 rfl
theorem getD_mem {ns:List Int} {i:Nat} (h:i<ns.length):ns.getD i 0∈ns:=by
 rw[List.getD_eq_getElem?_getD,List.getElem?_eq_getElem h]
 exact List.getElem_mem h
theorem getD_drop (ns:List Int) (st i:Nat):(ns.drop st).getD i 0=ns.getD (st+i) 0:=by
 rw[List.getD_eq_getElem?_getD,List.getD_eq_getElem?_getD,List.getElem?_drop]
section
variable {P:Program} {w:World} {K:PySem.W.Frag} {mg:Str->Option Value} {base:Heap} {a_KINDS C_BadRow C_Broken:Addr}
theorem sc_row_end:FnScope ["some","start","end"] ["some","start"] (defScope s_row_end):=‹0›
theorem ok_row_end {f:Addr} {fd:FuncData} (F:Fun K "row_end" "row_end" s_row_end f fd) (T:TxtB K mg a_KINDS C_BadRow C_Broken):‹9› 1 f fd ["some","start"] sp_row_end:=by
 obtain⟨_,hc_HEAD_SIZE⟩:=T.c_HEAD_SIZE
 refine F.okX sc_row_end (fun vs H Q E h=>?_) (fun cdv A outer s H vs Q E hr h=>?_)
 ·obtain⟨a,ns,st,rfl,_⟩:=h
  rfl
 ·obtain⟨a,ns,st,rfl,ha,hb,hst,q⟩:=h
  refine⟨_,@pss_cons _ _ _ _ _ (@ps_if _ _ _ _ _ _ _ _ (@pt_cmpR _ _ _ _ _ _ _ _ op_gt ‹46› ‹34› (nomark _)) (@pss_one _ _ _ (@ps_ret _ _ _ _ (@pe_non _ _ _))) (@pss_nil _)) (@pss_cons _ _ _ _ _ (@ps_set _ _ (2) _ _ _ _ sc_row_end.nd (by rfl) (by first | exact Or.inl (by rfl) | exact Or.inr (by rfl)) (@pe_op _ _ _ _ _ _ _ _ op_add ‹46› (@pe_ix _ _ _ _ _ _ _ (ix_tupK K) ‹20› (@pe_op _ _ _ _ _ _ _ _ op_sub ‹46› ‹24›) (fun _ _=>rfl))) ⋯ ⋯) (@pss_one _ _ _ (@ps_ret _ _ _ _ (@pe_ifExp _ _ _ _ _ _ _ _ (@pt_cmpR _ _ _ _ _ _ _ _ op_le ‹25› ‹34› (nomark _)) ‹25› (@pe_non _ _ _))))),?_⟩
  have sq:SqT K H a (ns.map V.int):=SqT.of ha
  refine⟨_,rfl,_,_,rfl,rfl,_,rfl,a,_,rfl,.inr sq,_,_,rfl,rfl,_,rfl,?_⟩
  rw[List.length_map]
  show if decide ((ns.length:Int)<(st:Int)+7)=true then _ else _
  unfold endL at q
  rw[List.length_drop,getD_drop]at q
  by_cases h1:ns.length - st<7
  ·rw[if_pos h1]at q
   rw[if_pos (decide_eq_true (by omega))]
   exact q
  ·rw[if_neg h1]at q
   rw[if_neg (by rw[decide_eq_true_eq]; omega)]
   have h6:st+6<ns.length:=by omega
   obtain⟨b0,b9⟩:=hb _ (getD_mem h6)
   have e6:((st:Int)+7 - 1)=((st+6:Nat):Int):=by omega
   refine⟨_,rfl,_,_,rfl,rfl,_,rfl,_,rfl,_,_,rfl,rfl,_,_,rfl,rfl,a,_,_,.int (ns.getD (st+6) 0),rfl,rfl,sq,?_,_,_,rfl,rfl,?_⟩
   ·show atI _ ((st:Int)+7 - 1)=_
    rw[e6]
    exact atI_nat (at_int h6)
   refine⟨_,rfl,_,rfl,a,_,rfl,.inr sq,_,_,rfl,rfl,_,rfl,?_⟩
   rw[List.length_map]
   show if decide ((st:Int)+7+ns.getD (st+6) 0<=(ns.length:Int))=true then _ else _
   by_cases h2:7+(ns.getD (st+6) 0).toNat<=ns.length - st
   ·rw[if_pos h2]at q
    rw[if_pos (decide_eq_true (by omega))]
    refine⟨_,rfl,?_⟩
    have ee:((st+(7+(ns.getD (st+6) 0).toNat):Nat):Int)=(st:Int)+7+ns.getD (st+6) 0:=by omega
    have q:Q (.int ((st+(7+(ns.getD (st+6) 0).toNat):Nat):Int)) H:=q
    rw[ee]at q
    exact q
   ·rw[if_neg h2]at q
    rw[if_neg (by rw[decide_eq_true_eq]; omega)]
    exact q
theorem sc_row_from:FnScope ["whole","behind","number","row"] ["whole"] (defScope s_row_from):=‹0›
set_option maxHeartbeats 1000000 in
theorem ok_row_from {f:Addr} {fd:FuncData} (F:Fun K "row_from" "row_from" s_row_from f fd) (T:TxtB K mg a_KINDS C_BadRow C_Broken) (c_is_row:‹10› "is_row" 3 ["thing"] sp_is_row)
  (c_checks_of:‹10› "checks_of" 1 ["behind"] sp_checks_of):‹9› 4 f fd ["whole"] (sp_row_from C_Broken):=by
 obtain⟨_,hc_HEAD_SIZE⟩:=T.c_HEAD_SIZE
 obtain⟨_,hc_CHECKS_SIZE⟩:=T.c_CHECKS_SIZE
 refine F.okX sc_row_from (fun vs H Q E h=>?_) (fun cdv A outer s H vs Q E hr h=>?_)
 ·obtain⟨a,ns,rfl,_⟩:=h
  rfl
 ·obtain⟨a,ns,rfl,ha,h7,h3,q,qe⟩:=h
  refine⟨_,@pss_cons _ _ _ _ _ (@ps_set _ _ (1) _ _ _ _ sc_row_from.nd (by rfl) (by first | exact Or.inl (by rfl) | exact Or.inr (by rfl)) (@pe_slice _ _ _ _ _ _ _ _ _ _ (sl_tupK K) ‹20› (@po_some _ _ _ (@pe_glob _ _ (.int 2) _ _ (by rfl) hc_CHECKS_SIZE ⟨_,rfl⟩ ⋯)) (@po_none _)) ⋯ ⋯) (@pss_cons _ _ _ _ _ (@ps_if _ _ _ _ _ _ _ _ (@pt_cmpR _ _ _ _ _ _ _ _ (op_neD hr.units) (@pe_slice _ _ _ _ _ _ _ _ _ _ (sl_tupK K) ‹20› (@po_none _) (@po_some _ _ _ (@pe_glob _ _ (.int 2) _ _ (by rfl) hc_CHECKS_SIZE ⟨_,rfl⟩ ⋯))) (@pe_fn _ _ _ _ _ _ _ _ _ _ _ c_checks_of ‹15› passN ‹40› ⋯ ⋯ ⋯ ⋯) (nomark _)) ‹22› (@pss_nil _)) (@pss_cons _ _ _ _ _ (@ps_if _ _ _ _ _ _ _ _ (@pt_not _ _ _ _ (@pt_chain _ _ _ _ _ _ _ _ _ _ _ _ op_le op_le ‹24› ‹35› (@pe_callB _ _ _ _ _ _ _ _ _ (call_lenK K) (by rfl) T.n_len bt_len (@pa_Name _ _ _ _ _ _ (@pe_glob _ _ (.ref a_KINDS) _ _ (by rfl) T.c_KINDS (by rfl) ⋯) (@pa_nil _)) ⋯ ⋯ ⋯ ⋯) ⋯)) ‹22› (@pss_nil _)) (@pss_cons _ _ _ _ _ (@ps_set _ _ (2) _ _ _ _ sc_row_from.nd (by rfl) (by first | exact Or.inl (by rfl) | exact Or.inr (by rfl)) (@pe_op _ _ _ _ _ _ _ _ op_add (@pe_op _ _ _ _ _ _ _ _ op_add (@pe_op _ _ _ _ _ _ _ _ op_mul ‹35› ‹24›) (@pe_op _ _ _ _ _ _ _ _ op_mul ‹35› ‹24›)) ‹35›) ⋯ ⋯) (@pss_cons _ _ _ _ _ (@ps_set _ _ (3) _ _ _ _ sc_row_from.nd (by rfl) (by first | exact Or.inl (by rfl) | exact Or.inr (by rfl)) (@pe_tup _ _ _ _ _ (@pa_Subscript _ _ _ _ _ _ _ (@pe_ix _ _ _ _ _ _ _ (ix_tupK K) (@pe_glob _ _ (.ref a_KINDS) _ _ (by rfl) T.c_KINDS (by rfl) ⋯) (@pe_op _ _ _ _ _ _ _ _ op_sub ‹35› ‹24›) (fun _ _=>rfl)) (@pa_Name _ _ _ _ _ _ ‹25› (@pa_Subscript _ _ _ _ _ _ _ (@pe_slice _ _ _ _ _ _ _ _ _ _ (sl_tupK K) ‹20› (@po_some _ _ _ (@pe_glob _ _ (.int 7) _ _ (by rfl) hc_HEAD_SIZE ⟨_,rfl⟩ ⋯)) (@po_none _)) (@pa_nil _))))) ⋯ ⋯) (@pss_cons _ _ _ _ _ (@ps_if _ _ _ _ _ _ _ _ (@pt_not _ _ _ _ (@pt_val _ _ _ (@pe_fn _ _ _ _ _ _ _ _ _ _ _ c_is_row ‹15› passN (@pa_Name _ _ _ _ _ _ ‹26› (@pa_nil _)) ⋯ ⋯ ⋯ ⋯) ⋯)) ‹22› (@pss_nil _)) (@pss_one _ _ _ (@ps_ret _ _ _ _ ‹26›))))))),?_⟩
  have sq:SqT K H a (ns.map V.int):=SqT.of ha
  have lm:(ns.map V.int).length=ns.length:=List.length_map _
  have w2:HT.sIx (ns.map V.int).length 0 (some 2)=2:=by
   rw[lm]
   exact(HT.sIx_nat ns.length 0 2).trans (Nat.min_eq_left (by omega))
  have w2':HT.sIx (ns.map V.int).length (ns.map V.int).length (some 2)=2:=by
   rw[lm]
   exact(HT.sIx_nat ns.length ns.length 2).trans (Nat.min_eq_left (by omega))
  have w7:HT.sIx (ns.map V.int).length 0 (some 7)=7:=by
   rw[lm]
   exact(HT.sIx_nat ns.length 0 7).trans (Nat.min_eq_left (by omega))
  have c2:cutV (ns.map V.int) (some 2) none=(ns.drop 2).map V.int:=(cut_from (lo:=2) (by omega)).trans (List.map_drop ..).symm
  have c2':cutV (ns.map V.int) none (some 2)=(ns.take 2).map V.int:=(cut_to (hi:=2) (by omega)).trans (List.map_take ..).symm
  have c7:cutV (ns.map V.int) (some 7) none=(ns.drop 7).map V.int:=(cut_from (lo:=7) (by omega)).trans (List.map_drop ..).symm
  refine⟨_,rfl,2,rfl,a,_,rfl,sq,fun z=>absurd z.1 (by rw[w2]; decide),fun _ p1 hp1=>?_⟩
  rw[c2]
  have S1:=same_upd (o:=.tup ((ns.drop 2).map V.int)) hp1
  generalize eH1:upd H p1 (.tup ((ns.drop 2).map V.int))=H1 at S1 ⊢
  have g1:H1 p1=some (.tup ((ns.drop 2).map V.int)):=by rw[<- eH1]; exact upd_same
  refine⟨_,rfl,2,rfl,a,_,rfl,S1.seqT sq,fun z=>absurd z.2 (by rw[w2',lm]; omega),fun _ p2 hp2=>?_⟩
  rw[c2']
  have S2:=same_upd (o:=.tup ((ns.take 2).map V.int)) hp2
  generalize eH2:upd H1 p2 (.tup ((ns.take 2).map V.int))=H2 at S2 ⊢
  have g2:H2 p2=some (.tup ((ns.take 2).map V.int)):=by rw[<- eH2]; exact upd_same
  refine⟨_,rfl,p1,ns.drop 2,rfl,S2 _ _ g1,by rw[List.length_drop]; omega,fun p3 H3 S3 g3=>?_⟩
  have den:∀ (p:Addr) (l:List Int),H3 p=some (.tup (l.map V.int))->Den H3 (.tuple (l.map .int)) (.ref p):=fun p l g=>by
   simp only[Den]
   exact⟨p,_,rfl,g,dens_ints.mpr rfl⟩
  refine⟨_,_,den p2 _ (S3 _ _ g2),den p3 [(checksF (ns.drop 2)).1,(checksF (ns.drop 2)).2] g3,shaped_ints _,shaped_ints _,_,rfl,?_⟩
  rw[eqv_ints]
  have SS:Same H H3:=S1.trans (S2.trans S3)
  unfold rowOf at q qe
  by_cases hc:ns.take 2=[(checksF (ns.drop 2)).1,(checksF (ns.drop 2)).2]
  case neg=>
   rw[if_neg hc]at qe
   rw[decide_eq_false hc]
   exact iteT ⟨(by show 1<=sizeLine; decide),qe rfl H3 SS⟩
  rw[if_pos hc]at q qe
  rw[decide_eq_true hc]
  refine iteF ?_
  have sq1:SqT K H3 p1 ((ns.drop 2).map V.int):=SqT.of (S3 _ _ (S2 _ _ g1))
  have bat:∀ i,i<5->atI ((ns.drop 2).map V.int) ((i:Nat):Int)=some (.int (ns.getD (2+i) 0)):=fun i hi=>by
   rw[<- getD_drop]
   exact atI_nat (at_int (by rw[List.length_drop]; omega))
  refine⟨_,rfl,p1,_,_,_,rfl,rfl,sq1,bat 0 (by decide),_,_,rfl,rfl,_,rfl,?_⟩
  show if decide (1<=ns.getD 2 0)=true then _ else _
  by_cases h1:1<=ns.getD 2 0
  case neg=>
   rw[if_neg (fun z=>h1 z.1)]at qe
   rw[if_neg (by rw[decide_eq_true_eq]; exact h1)]
   exact⟨_,rfl,iteT ⟨(by show 1<=sizeLine; decide),qe rfl H3 SS⟩⟩
  rw[if_pos (decide_eq_true h1)]
  refine⟨a_KINDS,_,rfl,.inr (T.k_KINDS H3),_,_,rfl,rfl,_,rfl,?_⟩
  show if (!decide (ns.getD 2 0<=8))=true then _ else _
  by_cases h8:ns.getD 2 0<=8
  case neg=>
   rw[if_neg (fun z=>h8 z.2)]at qe
   rw[decide_eq_false h8]
   exact iteT ⟨(by show 1<=sizeLine; decide),qe rfl H3 SS⟩
  rw[if_pos ⟨h1,h8⟩]at q qe
  rw[decide_eq_true h8]
  refine iteF ?_
  refine⟨_,rfl,p1,_,_,_,rfl,rfl,sq1,bat 1 (by decide),_,_,rfl,rfl,.inr ⟨by decide,by decide⟩,_,rfl,p1,_,_,_,rfl,rfl,sq1,bat 2 (by decide),_,_,rfl,rfl,.inr ⟨by decide,by decide⟩,_,_,rfl,rfl,_,rfl,p1,_,_,_,rfl,rfl,sq1,bat 3 (by decide),_,_,rfl,rfl,?_⟩
  have hk:=kinds_at (i:=ns.getD 2 0 - 1) (by omega) (by omega)
  refine⟨_,rfl,p1,_,_,_,rfl,rfl,sq1,bat 0 (by decide),_,_,rfl,rfl,a_KINDS,_,_,_,rfl,rfl,T.k_KINDS H3,hk,_,rfl,_,rfl,7,rfl,a,_,rfl,SS.seqT sq,fun z=>absurd z.1 (by rw[w7]; decide),fun _ p4 hp4=>?_⟩
  rw[c7]
  have S4:=same_upd (o:=.tup ((ns.drop 7).map V.int)) hp4
  generalize eH4:upd H3 p4 (.tup ((ns.drop 7).map V.int))=H4 at S4 ⊢
  have g4:H4 p4=some (.tup ((ns.drop 7).map V.int)):=by rw[<- eH4]; exact upd_same
  refine⟨(by show 3<=sizeLine; decide),fun p5 hp5=>?_⟩
  have S5:=same_upd (o:=.tup [.str (kinds.getD (ns.getD 2 0 - 1).toNat "put"),.int (ns.getD 3 0 * 65536+ns.getD 4 0 * 256+ns.getD 5 0),.ref p4]) hp5
  dsimp only at q qe
  generalize hd:(PyData.tuple [.str (kinds.getD (ns.getD 2 0 - 1).toNat "put"),.int (ns.getD 3 0 * 65536+ns.getD 4 0 * 256+ns.getD 5 0),.tuple ((ns.drop 7).map .int)])=d at q qe
  have dn:Den (upd H4 p5 (.tup [.str (kinds.getD (ns.getD 2 0 - 1).toNat "put"),.int (ns.getD 3 0 * 65536+ns.getD 4 0 * 256+ns.getD 5 0),.ref p4])) d (.ref p5):=by
   rw[<- hd]
   simp only[Den,Dens]
   exact⟨p5,_,rfl,upd_same,_,_,rfl,rfl,_,_,rfl,rfl,_,_,rfl,⟨p4,_,rfl,S5 _ _ g4,dens_ints.mpr rfl⟩,rfl⟩
  refine⟨_,rfl,.ref p5,d,rfl,dn,?_,fun H6 S6=>⟨_,rfl,?_⟩⟩
  ·rintro k n bs e
   rw[<- hd]at e
   injection e with e
   injection e with _ e
   injection e with _ e
   injection e with e _
   injection e with e
   rw[<- e,List.length_map,List.length_drop]
   exact Nat.le_trans (show _<=300 by omega) (by decide)
  cases hb:isRowD d with
  | false=>
   rw[if_neg (by rw[hb]; decide)]at qe
   exact iteT ⟨(by show 1<=sizeLine; decide),qe rfl H6 (SS.trans (S4.trans (S5.trans S6)))⟩
  | true=>
   rw[if_pos hb]at q
   refine iteF ⟨_,rfl,?_⟩
   exact q d rfl p5 H6 (SS.trans (S4.trans (S5.trans S6))) (dn.same S6)
end
def sp_rows_in (C_BadRow C_Broken:Addr):Sp:=fun vs H Q E=>∃ (v:V) (d:PyData),vs=[v]/\Den H d v/\(∀ bs,d = .tuple bs->bs.length<=sizeLine)/\(isByt d=false->∀ H',Same H H'->E (.ref C_BadRow) none H')/\
 (isByt d=true->(∀ ds (k:Nat),readL ((intsOf d).length+1) (intsOf d)=some (ds,k)->∀ p H',Same H H'->Den H' (.tuple [.list ds,.int (k:Int)]) (.ref p)->Q (.ref p) H')/\(readL ((intsOf d).length+1) (intsOf d)=none->∀ H',Same H H'->E (.ref C_Broken) none H'))
theorem readL_step (f:Nat) (ns:List Int):readL (f+1) ns=match endL ns with
  | none=>some ([],ns.length)
  | some e=>match rowOf (ns.take e) with
   | none=>none
   | some d=>(readL f (ns.drop e)).map fun r=>(d::r.1,r.2):=rfl
theorem tupDs_app:∀ {a b:List PyData},tupDs a=true->tupDs b=true->tupDs (a++b)=true
 | [],b,_,h=>h
 | d::a,b,h1,h2=>by
  simp only[tupDs,Bool.and_eq_true]at h1
  show (tupD d && tupDs (a++b))=true
  rw[h1.1,tupDs_app h1.2 h2]
  rfl
theorem dens_one {H:Hp} {d:PyData} {v:V} (h:Den H d v):Dens H [d] [v]:=by
 simp only[Dens]
 exact⟨v,[],rfl,h,rfl⟩
theorem same_lst {H H2:Hp} {l:Addr} {ys:List V} (h0:H l=none) (s:Same H H2):Same H (upd H2 l (.lst ys)):=fun c u e=>by
 rw[upd_ne (ne_of_none e h0)]
 exact s c u e
theorem byt_form {H:Hp} {d:PyData} {v:V} (hd:Den H d v) (hb:isByt d=true):∃ a,v = .ref a/\H a=some (.tup ((intsOf d).map V.int)):=by
 cases d with
 | tuple bs=>
  simp only[Den]at hd
  obtain⟨a,ys,rfl,ha,hbs⟩:=hd
  have ei:=byt_ints hbs hb
  subst ei
  exact⟨a,rfl,ha⟩
 | _=>exact absurd hb (by simp [isByt])
theorem byt_bounds {d:PyData} (hb:isByt d=true):bytesOk (intsOf d):=by
 cases d with
 | tuple bs=>
  have hb:bs.all (isNum 0 255)=true:=hb
  rw[List.all_eq_true]at hb
  intro b hm
  have hm:b∈bs.map fun d=>match d with | .int i=>i | _=>0:=hm
  rw[List.mem_map]at hm
  obtain⟨d,h1,h2⟩:=hm
  have h3:=hb d h1
  cases d with
  | int i=>
   have h2:i=b:=h2
   subst h2
   simpa [isNum] using h3
  | _=>exact absurd h3 (by simp [isNum])
 | _=>exact absurd hb (by simp [isByt])
theorem ints_len {bs:List PyData}:(intsOf (.tuple bs)).length=bs.length:=List.length_map _
theorem sl_both {K:PySem.W.Frag} {a:Addr} {xs:List V} {lo hi:Option Int} {H:Hp} {Q:VK} (ha:H a=some (.tup xs)) (h:∀ b H4,Same H H4->H4 b=some (.tup (cutV xs lo hi))->Q (.ref b) H4):rSlTA K (.ref a) lo hi H Q:=by
 refine⟨a,xs,rfl,SqT.of ha,fun z=>?_,fun _ p hp=>h p _ (same_upd hp) upd_same⟩
 refine h a H (Same.refl H) ?_
 rw[ha]
 unfold cutV
 rw[z.1,z.2,List.drop_zero,Nat.sub_zero,List.take_length]
section
variable {P:Program} {w:World} {K:PySem.W.Frag} {mg:Str->Option Value} {base:Heap} {a_KINDS C_BadRow C_Broken:Addr}
theorem sc_rows_in:FnScope ["some","rows","start","end"] ["some"] (defScope s_rows_in):=‹0›
set_option maxHeartbeats 1000000 in
theorem ok_rows_in {f:Addr} {fd:FuncData} (F:Fun K "rows_in" "rows_in" s_rows_in f fd) (T:TxtB K mg a_KINDS C_BadRow C_Broken) (c_is_bytes:‹10› "is_bytes" 2 ["thing"] sp_is_bytes)
  (c_row_end:‹10› "row_end" 1 ["some","start"] sp_row_end) (c_row_from:‹10› "row_from" 4 ["whole"] (sp_row_from C_Broken)):‹9› 5 f fd ["some"] (sp_rows_in C_BadRow C_Broken):=by
 refine F.okX sc_rows_in (fun vs H Q E h=>?_) (fun cdv A outer s H vs Q E hr h=>?_)
 ·obtain⟨v,d,rfl,_⟩:=h
  rfl
 ·obtain⟨v,d,rfl,hd,hz,qb,q⟩:=h
  refine⟨_,@pss_cons _ _ _ _ _ (@ps_if _ _ _ _ _ _ _ _ (@pt_not _ _ _ _ (@pt_val _ _ _ (@pe_fn _ _ _ _ _ _ _ _ _ _ _ c_is_bytes ‹15› passN ‹37› ⋯ ⋯ ⋯ ⋯) ⋯)) ‹44› (@pss_nil _)) (@pss_cons _ _ _ _ _ (@ps_set _ _ (1) _ _ _ _ sc_rows_in.nd (by rfl) (by first | exact Or.inl (by rfl) | exact Or.inr (by rfl)) (@pe_lst _ _ _ _ (@pa_nil _)) ⋯ ⋯) (@pss_cons _ _ _ _ _ (@ps_set _ _ (2) _ _ _ _ sc_rows_in.nd (by rfl) (by first | exact Or.inl (by rfl) | exact Or.inr (by rfl)) ‹24› ⋯ ⋯) (@pss_cons _ _ _ _ _ (@ps_set _ _ (3) _ _ _ _ sc_rows_in.nd (by rfl) (by first | exact Or.inl (by rfl) | exact Or.inr (by rfl)) (@pe_fn _ _ _ _ _ _ _ _ _ _ _ c_row_end ‹15› passN (@pa_Name _ _ _ _ _ _ ‹20› ‹47›) ⋯ ⋯ ⋯ ⋯) ⋯ ⋯) (@pss_cons _ _ _ _ _ (@ps_while _ _ _ _ _ _ (ownB own_cx) (@pt_cmpR _ _ _ _ _ _ _ _ op_notN ‹26› (@pe_non _ _ _) (nomark _)) (@pss_cons _ _ _ _ _ (ps_expr (pe_bmK K PySem.F.plainAttrs_list PySem.F.slot_list_append PySem.F.type_list_append mt_append (pv 1) (pa_Call (pe_fn c_row_from ‹15› passS (pa_Subscript (pe_slice (sl_tupK K) (pv 0) (po_some (pv 2)) (po_some (pv 3))) pa_nil)) pa_nil))) (@pss_cons _ _ _ _ _ (@ps_set _ _ (2) _ _ _ _ sc_rows_in.nd (by rfl) (by first | exact Or.inl (by rfl) | exact Or.inr (by rfl)) ‹26› ⋯ ⋯) (@pss_one _ _ _ (@ps_set _ _ (3) _ _ _ _ sc_rows_in.nd (by rfl) (by first | exact Or.inl (by rfl) | exact Or.inr (by rfl)) (@pe_fn _ _ _ _ _ _ _ _ _ _ _ c_row_end ‹15› passN (@pa_Name _ _ _ _ _ _ ‹20› ‹47›) ⋯ ⋯ ⋯ ⋯) ⋯ ⋯))))) (@pss_one _ _ _ (@ps_ret _ _ _ _ (@pe_tup _ _ _ _ _ (@pa_Name _ _ _ _ _ _ ‹21› (@pa_BinOp _ _ _ _ _ _ _ _ (@pe_op _ _ _ _ _ _ _ _ op_sub ‹34› ‹25›) (@pa_nil _)))))))))),?_⟩
  refine⟨_,rfl,v,d,rfl,hd,hz,fun H1 S1=>⟨_,rfl,?_⟩⟩
  cases hb:isByt d with
  | false=>exact iteT ⟨(by show 1<=sizeLine; decide),qb hb H1 S1⟩
  | true=>
  refine iteF ?_
  obtain⟨q,qe⟩:=q hb
  obtain⟨a,rfl,ha⟩:=byt_form hd hb
  have bo:=byt_bounds hb
  have hns:(intsOf d).length<=sizeLine:=by
   cases d with
   | tuple bs=>rw[ints_len]; exact hz bs rfl
   | _=>exact absurd hb (by simp [isByt])
  generalize intsOf d=ns at *
  refine⟨(by show 0<=sizeLine; decide),fun rl hrl=>?_⟩
  have S2:=same_upd (o:=.lst []) hrl
  generalize eH2:upd H1 rl (.lst [])=H2 at S2 ⊢
  have g2:H2 rl=some (.lst []):=by rw[<- eH2]; exact upd_same
  have hrl0:H rl=none:=S1.free hrl
  have SS:Same H H2:=S1.trans S2
  refine⟨_,rfl,_,rfl,a,ns,0,rfl,SS _ _ ha,bo,Nat.zero_le _,?_⟩
  refine⟨fun m σ H3=>∃ (st f:Nat) (ds:List PyData) (xs:List V),m=ns.length - st/\st<=ns.length/\ns.length<st+f/\σ = [some (.ref a),some (.ref rl),some (.int (st:Int)),some (endV st (endL (ns.drop st)))]/\Same H H3/\
   H3 rl=some (.lst xs)/\Dens H3 ds xs/\tupDs ds=true/\ds.length<=st/\readL (ns.length+1) ns=(readL f (ns.drop st)).map fun r=>(ds++r.1,r.2),⟨_,0,ns.length+1,[],[],rfl,Nat.zero_le _,by omega,rfl,SS,g2,by simp only[Dens],rfl,Nat.le_refl _,?_⟩,?_⟩
  ·simp
  rintro m σ H3 ⟨st,f,ds,xs,rfl,hst,hf,rfl,S3,g3,dn,td,hl,er⟩
  obtain⟨f,rfl⟩:∃ g,f=g+1:=⟨f - 1,by omega⟩
  rw[readL_step f]at er
  have ldr:(ns.drop st).length=ns.length - st:=List.length_drop
  refine⟨_,rfl,rfl,_,rfl,?_⟩
  cases he:endL (ns.drop st) with
  | none=>
   rw[he]at er
   refine iteF ?_
   have er:readL (ns.length+1) ns=some (ds++[],(ns.drop st).length):=er
   rw[List.append_nil,ldr]at er
   refine⟨_,rfl,_,rfl,a,_,rfl,.inr (SqT.of (S3 _ _ ha)),_,rfl,_,_,rfl,rfl,(by show 2<=sizeLine; decide),fun p hp=>?_⟩
   have S4:=same_upd (o:=.tup [.ref rl,.int (((ns.map V.int).length:Int) - (st:Int))]) hp
   refine q ds (ns.length - st) er p _ (S3.trans S4) ?_
   have e1:(((ns.map V.int).length:Int) - (st:Int))=((ns.length - st:Nat):Int):=by rw[List.length_map]; omega
   simp only[Den,Dens]
   exact⟨p,_,rfl,upd_same,_,_,rfl,⟨rl,xs,rfl,S4 _ _ g3,dn.same S4⟩,_,_,rfl,by rw[e1],rfl⟩
  | some e=>
   rw[he]at er
   obtain⟨e7,ele⟩:=endL_le he
   rw[ldr]at ele
   have hsz:ns.length<=sizeLine:=hns
   refine iteT ⟨fun σ' H'=>∃ m',m'<ns.length - st/\∃ (st f:Nat) (ds:List PyData) (xs:List V),m'=ns.length - st/\st<=ns.length/\ns.length<st+f/\σ'=[some (.ref a),some (.ref rl),some (.int (st:Int)),some (endV st (endL (ns.drop st)))]/\Same H H'/\
    H' rl=some (.lst xs)/\Dens H' ds xs/\tupDs ds=true/\ds.length<=st/\readL (ns.length+1) ns=(readL f (ns.drop st)).map fun r=>(ds++r.1,r.2),fun _ _ h=>h,?_⟩
   refine⟨_,rfl,.inl ⟨rfl,_,SqL.of g3⟩,?_⟩
   refine⟨_,rfl,_,rfl,_,rfl,_,rfl,_,rfl,sl_both (S3 _ _ ha) fun b H4 S4 g4=>?_⟩
   have ec:cutV (ns.map V.int) (some (st:Int)) (some ((st+e:Nat):Int))=((ns.drop st).take e).map V.int:=by
    rw[cut_nat (by omega) (by rw[List.length_map]; omega),<- List.map_drop,<- List.map_take,Nat.add_sub_cancel_left]
   rw[ec]at g4
   have er:readL (ns.length+1) ns=Option.map (fun(r:List PyData × Nat)=>(ds++r.1,r.2)) (match rowOf ((ns.drop st).take e) with
    | none=>none
    | some d=>Option.map (fun r=>(d::r.1,r.2)) (readL f ((ns.drop st).drop e))):=er
   have le:((ns.drop st).take e).length=e:=by rw[List.length_take,ldr]; omega
   have h262:e<=262:=by
    have h6:st+6<ns.length:=by omega
    have b6:=bo _ (getD_mem h6)
    unfold endL at he
    rw[ldr,getD_drop,if_neg (by omega)]at he
    split at he
    ·have:=Option.some.inj he
     omega
    ·cases he
   refine⟨b,_,rfl,g4,by rw[le]; omega,by rw[le]; omega,fun d' hd' p H5 S5 dp=>?_,fun hn H5 S5=>?_⟩
   ·rw[hd']at er
    have S35:Same H3 H5:=S4.trans S5
    refine⟨rl,xs,.ref p,rfl,rfl,S35 _ _ g3,?_,?_⟩
    ·rw[dn.length]
     omega
    have N5:=sameN_lst (zs:=xs++[.ref p]) (S35 _ _ g3)
    have S6:Same H (upd H5 rl (.lst (xs++[.ref p]))):=same_lst hrl0 (S3.trans S35)
    have D6:Dens (upd H5 rl (.lst (xs++[.ref p]))) (ds++[d']) (xs++[.ref p]):=((dn.same S35).n N5 td).app (dens_one (dp.n N5 (rowOf_tup hd')))
    have g6:upd H5 rl (.lst (xs++[.ref p])) rl=some (.lst (xs++[.ref p])):=upd_same
    generalize upd H5 rl (.lst (xs++[.ref p]))=H6 at S6 D6 g6 ⊢
    refine⟨_,rfl,_,rfl,_,rfl,a,ns,st+e,rfl,S6 _ _ ha,bo,by omega,?_⟩
    refine⟨_,?_,st+e,f,ds++[d'],xs++[.ref p],rfl,by omega,by omega,rfl,S6,g6,D6,tupDs_app td ?_,?_,?_⟩
    ·omega
    ·show (tupD d' && true)=true
     rw[rowOf_tup hd']
     rfl
    ·rw[List.length_append]
     show _+1<=_
     omega
    ·rw[er,List.drop_drop]
     cases readL f (ns.drop (st+e)) with
     | none=>rfl
     | some r=>simp
   ·rw[hn]at er
    exact qe er H5 (S3.trans (S4.trans S5))
end
mutual
def seqD:PyData->Bool
 | .none | .bool _ | .int _=>true
 | .str x=>PyData.strOk x
 | .tuple ds=>seqDs ds
 | .list ds=>seqDs ds
 | .dict _=>false
def seqDs:List PyData->Bool
 | []=>true
 | d::ds=>seqD d && seqDs ds
end
mutual
theorem eqv_refl:∀ {d:PyData},seqD d=true->PyData.eqv d d=true
 | .none,_=>rfl
 | .bool b,_=>by cases b <;> rfl
 | .int i,_=>by simp [PyData.eqv]
 | .str x,_=>by simp [PyData.eqv]
 | .tuple ds,h=>by
  simp only[seqD]at h
  simp only[PyData.eqv]
  exact eqvs_refl h
 | .list ds,h=>by
  simp only[seqD]at h
  simp only[PyData.eqv]
  exact eqvs_refl h
 | .dict _,h=>by simp [seqD]at h
theorem eqvs_refl:∀ {ds:List PyData},seqDs ds=true->PyData.eqvAll ds ds=true
 | [],_=>rfl
 | d::ds,h=>by
  simp only[seqDs,Bool.and_eq_true]at h
  simp only[PyData.eqvAll]
  rw[eqv_refl h.1,eqvs_refl h.2]
  rfl
end
mutual
theorem lay_seq:∀ {d:PyData},seqD d=true->PyData.canLay0 d=true
 | .none,_=>rfl
 | .bool b,_=>rfl
 | .int i,_=>rfl
 | .str x,h=>by
  simp only[seqD]at h
  simp only[PyData.canLay0]
  exact h
 | .tuple ds,h=>by
  simp only[seqD]at h
  simp only[PyData.canLay0]
  exact lays_seq h
 | .list ds,h=>by
  simp only[seqD]at h
  simp only[PyData.canLay0]
  exact lays_seq h
 | .dict _,h=>by simp [seqD]at h
theorem lays_seq:∀ {ds:List PyData},seqDs ds=true->PyData.canLayAll0 ds=true
 | [],_=>rfl
 | d::ds,h=>by
  simp only[seqDs,Bool.and_eq_true]at h
  simp only[PyData.canLayAll0]
  rw[lay_seq h.1,lays_seq h.2]
  rfl
end
theorem shaped_of {d:PyData} (h:seqD d=true) (hd:PyData.depth d<=64):SeqAt.shaped d=true:=by
 unfold SeqAt.shaped
 rw[lay_seq h,decide_eq_true hd]
 rfl
end Qh
end
section
namespace Qh
open PySem L2
theorem bt_max:bootBuiltins "max" = some (.builtin "max"):=by decide +kernel
theorem bt_sorted:bootBuiltins "sorted" = some (.builtin "sorted"):=by decide +kernel
theorem hu1 {a c:Nat} (h:a+64<c):a+1<c:=by omega
abbrev Ent:=List Int × Int × Int
def rowT (k:Str) (n:Int) (ns:List Int):PyData:=.tuple [.str k,.int n,.tuple (ns.map .int)]
structure Bk where
 es:List (Int × Ent)
 up:Int
 parts:List (Int × List Int)
def lookE (es:List (Int × Ent)) (n:Int):Option Ent:=(es.find? fun p=>decide (p.1=n)).map (·.2)
def putE (es:List (Int × Ent)) (n:Int) (e:Ent):List (Int × Ent):=if (es.any fun p=>decide (p.1=n))=true then es.map (fun p=>if p.1=n then (p.1,e) else p) else es++[(n,e)]
def dropE (es:List (Int × Ent)) (n:Int):List (Int × Ent):=es.filter fun p=>decide (p.1≠n)
def put1 (B:Bk) (n:Int) (body:List Int) (seg:Int):Option Bk:=if n<B.up then none else some ⟨putE B.es n (body,0,seg),n+1,B.parts⟩
def puts (seg:Int):Bk->List (Int × List Int)->Option Bk
 | B,[]=>some B
 | B,p::ps=>match put1 B p.1 p.2 seg with
  | none=>none
  | some B'=>puts seg B' ps
def dealF (B:Bk) (n m:Int) (seg:Int):Option Bk:=if B.parts.map (·.1)=(List.range m.toNat).map (fun(k:Nat)=>n+(k:Int)) then puts seg ⟨B.es,B.up,[]⟩ B.parts else none
def maxI (i j:Int):Int:=if j > i then j else i
def enterF (B:Bk) (k:Str) (n:Int) (body:List Int) (seg:Int):Option Bk:=
 if k = "part" then some ⟨B.es,B.up,B.parts++[(n,body)]⟩
 else if k = "deal" then dealF B n (body.getD 0 0) seg
 else if B.parts≠[] then none
 else if k = "put" then put1 B n body seg
 else if k = "from" then some ⟨B.es,maxI B.up n,B.parts⟩
 else if k = "carried" then some ⟨putE B.es n (body.drop 1,body.getD 0 0,seg),maxI B.up (n+1),B.parts⟩
 else match lookE B.es n with
  | none=>some B
  | some e=>if k = "out" then some ⟨putE B.es n (e.1,e.2.1+1,e.2.2),B.up,B.parts⟩ else if k = "new" then some ⟨putE B.es n (e.1,0,e.2.2),B.up,B.parts⟩ else some ⟨dropE B.es n,B.up,B.parts⟩
theorem putE_len (es:List (Int × Ent)) (n:Int) (e:Ent):(putE es n e).length<=es.length+1:=by
 unfold putE
 split
 ·rw[List.length_map]
  omega
 ·rw[List.length_append]
  exact Nat.le_refl _
def TupS (H H':Hp):Prop:=∀ b xs,H b=some (.tup xs)->H' b=some (.tup xs)
theorem Same.tup {H H':Hp} (s:Same H H'):TupS H H':=fun b xs e=>s b _ e
theorem TupS.trans {H H1 H2:Hp} (a:TupS H H1) (b:TupS H1 H2):TupS H H2:=fun c xs e=>b c xs (a c xs e)
mutual
theorem den_t {H H':Hp} (e:TupS H H'):∀ {d:PyData} {v:V},tupD d=true->Den H d v->Den H' d v
 | .none,v,t,h=>by simp only[Den]at h ⊢; exact h
 | .bool b,v,t,h=>by simp only[Den]at h ⊢; exact h
 | .int i,v,t,h=>by simp only[Den]at h ⊢; exact h
 | .str x,v,t,h=>by simp only[Den]at h ⊢; exact h
 | .tuple ds,v,t,h=>by
  simp only[Den]at h ⊢
  simp only[tupD]at t
  obtain⟨a,xs,e1,h1,h2⟩:=h
  exact⟨a,xs,e1,e _ _ h1,dens_t e t h2⟩
 | .list ds,v,t,h=>by simp [tupD]at t
 | .dict _,v,t,h=>by simp only[Den]at h
theorem dens_t {H H':Hp} (e:TupS H H'):∀ {ds:List PyData} {xs:List V},tupDs ds=true->Dens H ds xs->Dens H' ds xs
 | [],xs,t,h=>by simp only[Dens]at h ⊢; exact h
 | d::ds,xs,t,h=>by
  simp only[Dens]at h ⊢
  simp only[tupDs,Bool.and_eq_true]at t
  obtain⟨x,r,e1,h1,h2⟩:=h
  exact⟨x,r,e1,den_t e t.1 h1,dens_t e t.2 h2⟩
end
def entAt (H:Hp) (v:V) (e:Ent):Prop:=∃ t b,v = .ref t/\H t=some (.tup [.ref b,.int e.2.1,.int e.2.2])/\H b=some (.tup (e.1.map V.int))
theorem entAt.t {H H':Hp} {v:V} {e:Ent} (s:TupS H H') (h:entAt H v e):entAt H' v e:=by
 obtain⟨t,b,e1,h1,h2⟩:=h
 exact⟨t,b,e1,s _ _ h1,s _ _ h2⟩
def EsR (H:Hp):List (Int × Ent)->List (Key × V)->Prop
 | [],[]=>True
 | p::es,q::kvs=>q.1=Sum.inl p.1/\entAt H q.2 p.2/\EsR H es kvs
 | _,_=>False
theorem EsR.t {H H':Hp} (s:TupS H H'):∀ {es:List (Int × Ent)} {kvs:List (Key × V)},EsR H es kvs->EsR H' es kvs
 | [],[],_=>trivial
 | p::es,q::kvs,h=>⟨h.1,h.2.1.t s,EsR.t s h.2.2⟩
 | [],_::_,h=>h.elim
 | _::_,[],h=>h.elim
theorem EsR.len {H:Hp}:∀ {es:List (Int × Ent)} {kvs:List (Key × V)},EsR H es kvs->kvs.length=es.length
 | [],[],_=>rfl
 | p::es,q::kvs,h=>by rw[List.length_cons,List.length_cons,EsR.len h.2.2]
 | [],_::_,h=>h.elim
 | _::_,[],h=>h.elim
theorem EsR.keys {H:Hp}:∀ {es:List (Int × Ent)} {kvs:List (Key × V)},EsR H es kvs->kvs.map (·.1)=(es.map (·.1)).map Sum.inl
 | [],[],_=>rfl
 | p::es,q::kvs,h=>by rw[List.map_cons,List.map_cons,List.map_cons,h.1,EsR.keys h.2.2]
 | [],_::_,h=>h.elim
 | _::_,[],h=>h.elim
theorem inl_eq {a b:Int}:((Sum.inl a:Key)=Sum.inl b) ↔ a=b:=⟨Sum.inl.inj,fun h=>by rw[h]⟩
theorem EsR.val {H:Hp} {n:Int}:∀ {es:List (Int × Ent)} {kvs:List (Key × V)},EsR H es kvs->(match lookE es n with | none=>valV kvs (Sum.inl n)=none | some e=>∃ v,valV kvs (Sum.inl n)=some v/\entAt H v e)
 | [],[],_=>rfl
 | p::es,q::kvs,h=>by
  obtain⟨h1,h2,h3⟩:=h
  have ih:=EsR.val (n:=n) h3
  by_cases e:p.1=n
  ·have:lookE (p::es) n=some p.2:=by simp [lookE,e]
   rw[this]
   exact⟨q.2,valV_pos (by rw[h1,e]),h2⟩
  ·have e1:lookE (p::es) n=lookE es n:=by simp [lookE,e]
   have e2:valV (q::kvs) (Sum.inl n)=valV kvs (Sum.inl n):=valV_neg (by rw[h1,inl_eq]; exact e)
   rw[e1,e2]
   exact ih
 | [],_::_,h=>h.elim
 | _::_,[],h=>h.elim
theorem EsR.any {H:Hp} {n:Int}:∀ {es:List (Int × Ent)} {kvs:List (Key × V)},EsR H es kvs->(kvs.any fun kv=>decide (kv.1=Sum.inl n))=(es.any fun p=>decide (p.1=n))
 | [],[],_=>rfl
 | p::es,q::kvs,h=>by
  obtain⟨h1,h2,h3⟩:=h
  rw[List.any_cons,List.any_cons,EsR.any h3,h1]
  congr 1
  exact decide_eq_decide.mpr inl_eq
 | [],_::_,h=>h.elim
 | _::_,[],h=>h.elim
theorem EsR.mapP {H:Hp} {n:Int} {e:Ent} {v:V} (hv:entAt H v e):∀ {es:List (Int × Ent)} {kvs:List (Key × V)},EsR H es kvs->EsR H (es.map fun p=>if p.1=n then (p.1,e) else p) (kvs.map fun kv=>if kv.1=Sum.inl n then (kv.1,v) else kv)
 | [],[],_=>trivial
 | p::es,q::kvs,h=>by
  obtain⟨h1,h2,h3⟩:=h
  rw[List.map_cons,List.map_cons]
  by_cases z:p.1=n
  ·rw[if_pos z,if_pos (show q.1=Sum.inl n by rw[h1,z])]
   exact⟨h1,hv,EsR.mapP hv h3⟩
  ·rw[if_neg z,if_neg (show ¬ q.1=Sum.inl n by rw[h1,inl_eq]; exact z)]
   exact⟨h1,h2,EsR.mapP hv h3⟩
 | [],_::_,h=>h.elim
 | _::_,[],h=>h.elim
theorem EsR.snoc {H:Hp} {n:Int} {e:Ent} {v:V} (hv:entAt H v e):∀ {es:List (Int × Ent)} {kvs:List (Key × V)},EsR H es kvs->EsR H (es++[(n,e)]) (kvs++[(Sum.inl n,v)])
 | [],[],_=>⟨rfl,hv,trivial⟩
 | p::es,q::kvs,h=>⟨h.1,h.2.1,EsR.snoc hv h.2.2⟩
 | [],_::_,h=>h.elim
 | _::_,[],h=>h.elim
theorem EsR.put {H:Hp} {es:List (Int × Ent)} {kvs:List (Key × V)} (h:EsR H es kvs) {n:Int} {e:Ent} {v:V} (hv:entAt H v e):EsR H (putE es n e) (putK kvs (Sum.inl n) v):=by
 unfold putE putK
 rw[h.any]
 by_cases z:(es.any fun p=>decide (p.1=n))=true
 ·rw[if_pos z,if_pos z]
  exact h.mapP hv
 ·rw[if_neg z,if_neg z]
  exact h.snoc hv
theorem EsR.drop {H:Hp} {n:Int}:∀ {es:List (Int × Ent)} {kvs:List (Key × V)},EsR H es kvs->EsR H (dropE es n) (dropK kvs (Sum.inl n))
 | [],[],_=>trivial
 | p::es,q::kvs,h=>by
  obtain⟨h1,h2,h3⟩:=h
  have ih:=EsR.drop (n:=n) h3
  by_cases z:p.1=n
  ·have e1:dropE (p::es) n=dropE es n:=by simp [dropE,z]
   rw[e1,dropK_pos (by rw[h1,z])]
   exact ih
  ·have e1:dropE (p::es) n=p::dropE es n:=by simp [dropE,z]
   rw[e1,dropK_neg (by rw[h1,inl_eq]; exact z)]
   exact⟨h1,h2,ih⟩
 | [],_::_,h=>h.elim
 | _::_,[],h=>h.elim
def partsD (ps:List (Int × List Int)):List PyData:=ps.map fun p=>rowT "part" p.1 p.2
theorem row_tup (k:Str) (n:Int) (ns:List Int):tupD (rowT k n ns)=true:=by
 have tl:∀ l:List Int,tupDs (l.map PyData.int)=true:=by
  intro l
  induction l with
  | nil=>rfl
  | cons x l ih=>exact ih
 unfold rowT
 simp only[tupD,tupDs,Bool.true_and,Bool.and_true]
 exact tl ns
theorem parts_tup:∀ ps:List (Int × List Int),tupDs (partsD ps)=true
 | []=>rfl
 | p::ps=>by
  show (tupD (rowT "part" p.1 p.2) && tupDs (partsD ps))=true
  rw[row_tup,parts_tup ps]
  rfl
def bkF (de dp:Addr) (up:Int):List (Str × V):=[("entries",.ref de),("upcoming",.int up),("parts",.ref dp)]
structure BookAt (C:Addr) (H:Hp) (bk de dp:Addr) (B:Bk):Prop where
 self:∃ dx,H bk=some (.ins C dx (bkF de dp B.up))
 ent:∃ kvs,H de=some (.dK kvs)/\EsR H B.es kvs
 par:∃ ps,H dp=some (.lst ps)/\Dens H (partsD B.parts) ps
def Frm (bk de dp:Addr) (H H':Hp):Prop:=∀ b o,H b=some o->b≠bk->b≠de->b≠dp->H' b=some o
theorem Frm.refl (bk de dp:Addr) (H:Hp):Frm bk de dp H H:=fun _ _ e _ _ _=>e
theorem Frm.trans {bk de dp dp':Addr} {H H1 H2:Hp} (a:Frm bk de dp H H1) (b:Frm bk de dp' H1 H2) (hd:dp'=dp\/H dp'=none):Frm bk de dp H H2:=fun c o e h1 h2 h3=>by
 refine b c o (a c o e h1 h2 h3) h1 h2 ?_
 rintro rfl
 rcases hd with rfl | hd
 ·exact h3 rfl
 ·rw[hd]at e
  cases e
theorem Same.frm {bk de dp:Addr} {H H':Hp} (s:Same H H'):Frm bk de dp H H':=fun b o e _ _ _=>s b o e
theorem BookAt.tup {C bk de dp:Addr} {H H':Hp} {B:Bk} (h:BookAt C H bk de dp B) (f:Frm bk de dp H H'):TupS H H':=fun b xs e=>by
 obtain⟨dx,h1⟩:=h.self
 obtain⟨kvs,h2,_⟩:=h.ent
 obtain⟨ps,h3,_⟩:=h.par
 exact f b _ e (by rintro rfl; rw[h1]at e; cases e) (by rintro rfl; rw[h2]at e; cases e) (by rintro rfl; rw[h3]at e; cases e)
theorem BookAt.same {C bk de dp:Addr} {H H':Hp} {B:Bk} (h:BookAt C H bk de dp B) (s:Same H H'):BookAt C H' bk de dp B:=by
 obtain⟨dx,h1⟩:=h.self
 obtain⟨kvs,h2,h3⟩:=h.ent
 obtain⟨ps,h4,h5⟩:=h.par
 exact⟨⟨dx,s _ _ h1⟩,⟨kvs,s _ _ h2,h3.t (Same.tup s)⟩,⟨ps,s _ _ h4,h5.same s⟩⟩
theorem BookAt.ne {C bk de dp:Addr} {H:Hp} {B:Bk} (h:BookAt C H bk de dp B):bk≠de/\bk≠dp/\de≠dp:=by
 obtain⟨dx,h1⟩:=h.self
 obtain⟨kvs,h2,h3⟩:=h.ent
 obtain⟨ps,h4,h5⟩:=h.par
 refine⟨?_,?_,?_⟩
 ·rintro rfl
  rw[h1]at h2
  cases h2
 ·rintro rfl
  rw[h1]at h4
  cases h4
 ·rintro rfl
  rw[h2]at h4
  cases h4
theorem tup_upd {H:Hp} {a:Addr} {o o':HO} (h:H a=some o) (hn:∀ xs,o ≠ .tup xs):TupS H (upd H a o'):=fun b xs e=>by
 rw[upd_ne (fun z=>by rw[z,h]at e; exact hn xs (Option.some.inj e))]
 exact e
theorem bk_ent {C bk de dp:Addr} {H:Hp} {B:Bk} (h:BookAt C H bk de dp B) {kvs':List (Key × V)} {es':List (Int × Ent)} (hr:EsR H es' kvs'):BookAt C (upd H de (.dK kvs')) bk de dp ⟨es',B.up,B.parts⟩:=by
 obtain⟨n1,n2,n3⟩:=h.ne
 obtain⟨dx,h1⟩:=h.self
 obtain⟨kvs,h2,h3⟩:=h.ent
 obtain⟨ps,h4,h5⟩:=h.par
 have t:=tup_upd (o':=.dK kvs') h2 (fun xs z=>by cases z)
 exact⟨⟨dx,by rw[upd_ne n1]; exact h1⟩,⟨kvs',upd_same,hr.t t⟩,⟨ps,by rw[upd_ne (Ne.symm n3)]; exact h4,dens_t t (parts_tup _) h5⟩⟩
theorem bk_self {C bk de dp dx dp':Addr} {H:Hp} {B:Bk} (h:BookAt C H bk de dp B) (u:Int) {ps:List V} {parts:List (Int × List Int)} (h4:H dp'=some (.lst ps)) (h5:Dens H (partsD parts) ps):BookAt C (upd H bk (.ins C dx (bkF de dp' u))) bk de dp' ⟨B.es,u,parts⟩:=by
 obtain⟨n1,n2,n3⟩:=h.ne
 obtain⟨dx0,h1⟩:=h.self
 obtain⟨kvs,h2,h3⟩:=h.ent
 have t:=tup_upd (o':=.ins C dx (bkF de dp' u)) h1 (fun xs z=>by cases z)
 have n4:dp'≠bk:=by
  rintro rfl
  rw[h1]at h4
  cases h4
 exact⟨⟨dx,upd_same⟩,⟨kvs,by rw[upd_ne (Ne.symm n1)]; exact h2,h3.t t⟩,⟨ps,by rw[upd_ne n4]; exact h4,dens_t t (parts_tup _) h5⟩⟩
theorem bk_app {C bk de dp:Addr} {H:Hp} {B:Bk} (h:BookAt C H bk de dp B) {ps:List V} {parts:List (Int × List Int)} (h5:Dens H (partsD parts) ps):BookAt C (upd H dp (.lst ps)) bk de dp ⟨B.es,B.up,parts⟩:=by
 obtain⟨n1,n2,n3⟩:=h.ne
 obtain⟨dx0,h1⟩:=h.self
 obtain⟨kvs,h2,h3⟩:=h.ent
 obtain⟨ps0,h4,_⟩:=h.par
 have t:=tup_upd (o':=.lst ps) h4 (fun xs z=>by cases z)
 exact⟨⟨dx0,by rw[upd_ne n2]; exact h1⟩,⟨kvs,by rw[upd_ne n3]; exact h2,h3.t t⟩,⟨ps,upd_same,dens_t t (parts_tup _) h5⟩⟩
theorem frm_bk {bk de dp:Addr} {H:Hp} {o:HO}:Frm bk de dp H (upd H bk o):=fun b u e h1 _ _=>by rw[upd_ne h1]; exact e
theorem frm_de {bk de dp:Addr} {H:Hp} {o:HO}:Frm bk de dp H (upd H de o):=fun b u e _ h1 _=>by rw[upd_ne h1]; exact e
theorem frm_dp {bk de dp:Addr} {H:Hp} {o:HO}:Frm bk de dp H (upd H dp o):=fun b u e _ _ h1=>by rw[upd_ne h1]; exact e
theorem putF_parts {de dp dp':Addr} {u:Int}:putF "parts" (.ref dp') (bkF de dp u)=bkF de dp' u:=rfl
structure TxtK (K:PySem.W.Frag) (mg:Str->Option Value) (a_KINDS C_BadRow C_Broken C_Book:Addr):Prop extends TxtR K mg a_KINDS C_BadRow where
 n_list:mg "list" = none
 n_max:mg "max" = none
 n_sorted:mg "sorted" = none
 x_Broken:excIn K C_Broken=true
 m_Broken:mg "Broken" = some (.ref C_Broken)
 cl:Cls K C_Book
 f_entries:NoAttr K C_Book "entries"
 f_upcoming:NoAttr K C_Book "upcoming"
 f_parts:NoAttr K C_Book "parts"
abbrev s_init:Stmt:=inClass (top 35) 0
abbrev s_enter:Stmt:=inClass (top 35) 1
abbrev s_enter_put:Stmt:=inClass (top 35) 2
abbrev s_enter_deal:Stmt:=inClass (top 35) 3
abbrev s_change:Stmt:=inClass (top 35) 4
abbrev s_letter:Stmt:=inClass (top 35) 5
abbrev s_letters:Stmt:=inClass (top 35) 6
def sp_enter_put (C C_Broken:Addr):Sp:=fun vs H Q E=>∃ (bk de dp b:Addr) (B:Bk) (n seg:Int) (body:List Int),vs=[.ref bk,.int n,.ref b,.int seg]/\BookAt C H bk de dp B/\H b=some (.tup (body.map V.int))/\B.es.length<1000/\
 (∀ B',put1 B n body seg=some B'->∀ H',Frm bk de dp H H'->BookAt C H' bk de dp B'->Q .non H')/\(put1 B n body seg=none->∀ H',Frm bk de dp H H'->E (.ref C_Broken) none H')
def sp_change (C:Addr):Sp:=fun vs H Q _=>∃ (bk de dp:Addr) (B:Bk) (k:Str) (n:Int) (e:Ent),vs=[.ref bk,.str k,.int n]/\BookAt C H bk de dp B/\lookE B.es n=some e/\B.es.length<1000/\
 ∀ H',Frm bk de dp H H'->BookAt C H' bk de dp (if k = "out" then ⟨putE B.es n (e.1,e.2.1+1,e.2.2),B.up,B.parts⟩ else if k = "new" then ⟨putE B.es n (e.1,0,e.2.2),B.up,B.parts⟩ else ⟨dropE B.es n,B.up,B.parts⟩)->Q .non H'
def letD (n:Int) (e:Ent):PyData:=.tuple [.int n,.tuple (e.1.map .int),.int e.2.1]
def sp_letter (C:Addr):Sp:=fun vs H Q _=>∃ (bk de dp:Addr) (B:Bk) (n:Int) (e:Ent),vs=[.ref bk,.int n]/\BookAt C H bk de dp B/\lookE B.es n=some e/\∀ p H',Same H H'->Den H' (letD n e) (.ref p)->Q (.ref p) H'
theorem dstr_eq' {k x:Str} (h:k=x):decide (V.str k=V.str x)=true:=decide_eq_true (by rw[h])
theorem dstr_ne' {k x:Str} (h:¬ k=x):decide (V.str k=V.str x)=false:=decide_eq_false (fun z=>h (V.str.inj z))
section
variable {P:Program} {w:World} {K:PySem.W.Frag} {mg:Str->Option Value} {base:Heap} {a_KINDS C_BadRow C_Broken C_Book:Addr}
theorem sc_Book_enter_put:FnScope ["self","number","body","segment"] ["self","number","body","segment"] (defScope s_enter_put):=‹0›
theorem ok_enter_put {f:Addr} {fd:FuncData} (F:Fun K "enter_put" "Book.enter_put" s_enter_put f fd) (T:‹7›):‹9› 1 f fd ["self","number","body","segment"] (sp_enter_put C_Book C_Broken):=by
 refine F.okX sc_Book_enter_put (fun vs H Q E h=>?_) (fun cdv A outer s H vs Q E hr h=>?_)
 ·obtain⟨bk,de,dp,b,B,n,seg,body,rfl,_⟩:=h
  rfl
 ·obtain⟨bk,de,dp,b,B,n,seg,body,rfl,hB,hb,hl,q,qe⟩:=h
  refine⟨_,@pss_cons _ _ _ _ _ (@ps_if _ _ _ _ _ _ _ _ (@pt_cmpR _ _ _ _ _ _ _ _ op_lt ‹21› ‹32› (nomark _)) ‹22› (@pss_nil _)) (@pss_cons _ _ _ _ _ (@ps_dput _ _ _ _ _ _ _ _ _ (hu1 hr.units) ‹32› ‹21› (@pe_tup _ _ _ _ _ (@pa_Name _ _ _ _ _ _ ‹25› (@pa_Constant _ _ _ _ _ _ _ ‹24› (@pa_Name _ _ _ _ _ _ ‹26› (@pa_nil _))))) (by rfl)) (@pss_one _ _ _ (@ps_fld _ _ _ _ _ _ _ _ ‹20› (@pe_op _ _ _ _ _ _ _ _ op_add ‹21› ‹24›) (by rfl)))),?_⟩
  obtain⟨dx,h1⟩:=hB.self
  refine⟨_,rfl,_,rfl,bk,_,dx,_,_,rfl,h1,T.cl,T.f_upcoming,rfl,_,_,rfl,rfl,_,rfl,?_⟩
  show if decide (n<B.up)=true then _ else _
  unfold put1 at q qe
  by_cases hn:n<B.up
  ·rw[if_pos (decide_eq_true hn)]
   rw[if_pos hn]at qe
   exact⟨(by show 1<=sizeLine; decide),qe rfl H (Frm.refl _ _ _ _)⟩
  rw[if_neg (by rw[decide_eq_true_eq]; exact hn)]
  rw[if_neg hn]at q
  refine go_next rfl ?_
  refine⟨_,rfl,_,rfl,(by show 3<=sizeLine; decide),fun t ht=>?_⟩
  have S1:=same_upd (o:=.tup [.ref b,.int 0,.int seg]) ht
  generalize eH1:upd H t (.tup [.ref b,.int 0,.int seg])=H1 at S1 ⊢
  have g1:H1 t=some (.tup [.ref b,.int 0,.int seg]):=by rw[<- eH1]; exact upd_same
  have hB1:=hB.same S1
  obtain⟨kvs,h2,h3⟩:=hB1.ent
  have he:entAt H1 (.ref t) (body,0,seg):=⟨t,b,rfl,g1,S1 _ _ hb⟩
  have hkl:kvs.length<sizeLine:=by rw[h3.len]; exact Nat.lt_trans hl (by decide)
  refine⟨_,rfl,bk,_,dx,_,_,rfl,S1 _ _ h1,T.cl,T.f_entries,rfl,_,rfl,de,_,rfl,DPut.k (k:=Sum.inl n) h2 hkl,?_⟩
  have hB2:=bk_ent hB1 (h3.put (n:=n) he)
  have F2:Frm bk de dp H1 (upd H1 de (.dK (putK kvs (Sum.inl n) (.ref t)))):=frm_de
  generalize upd H1 de (.dK (putK kvs (Sum.inl n) (.ref t)))=H2 at hB2 F2 ⊢
  obtain⟨dx2,h12⟩:=hB2.self
  obtain⟨ps2,h42,h52⟩:=hB2.par
  refine⟨_,rfl,_,_,rfl,rfl,_,rfl,bk,_,dx2,_,rfl,h12,T.cl,T.f_upcoming,(by show 3<1000; decide),?_⟩
  exact q _ rfl _ (((Same.frm S1).trans F2 (.inl rfl)).trans frm_bk (.inl rfl)) (bk_self hB2 (n+1) h42 h52)
theorem sc_Book_change_entry:FnScope ["self","kind","number","entry"] ["self","kind","number"] (defScope s_change):=‹0›
theorem ok_change {f:Addr} {fd:FuncData} (F:Fun K "change_entry" "Book.change_entry" s_change f fd) (T:‹7›):‹9› 1 f fd ["self","kind","number"] (sp_change C_Book):=by
 refine F.okX sc_Book_change_entry (fun vs H Q E h=>?_) (fun cdv A outer s H vs Q E hr h=>?_)
 ·obtain⟨bk,de,dp,B,k,n,e,rfl,_⟩:=h
  rfl
 ·obtain⟨bk,de,dp,B,k,n,e,rfl,hB,he,hl,q⟩:=h
  refine⟨_,@pss_cons _ _ _ _ _ (@ps_set _ _ (3) _ _ _ _ sc_Book_change_entry.nd (by rfl) (by first | exact Or.inl (by rfl) | exact Or.inr (by rfl)) (@pe_dget _ _ _ _ _ _ (hu1 hr.units) ‹32› ‹25› (fun _ _=>rfl)) ⋯ ⋯) (@pss_one _ _ _ (@ps_if _ _ _ _ _ _ _ _ (@pt_cmpR _ _ _ _ _ _ _ _ op_eq ‹21› (@pe_str _ _ _ _) (nomark _)) (@pss_one _ _ _ (@ps_dput _ _ _ _ _ _ _ _ _ (hu1 hr.units) ‹32› ‹25› (@pe_tup _ _ _ _ _ (@pa_Subscript _ _ _ _ _ _ _ ‹39› (@pa_BinOp _ _ _ _ _ _ _ _ (@pe_op _ _ _ _ _ _ _ _ op_add ‹39› ‹24›) (@pa_Subscript _ _ _ _ _ _ _ ‹39› (@pa_nil _))))) (by rfl))) (@pss_one _ _ _ (@ps_if _ _ _ _ _ _ _ _ (@pt_cmpR _ _ _ _ _ _ _ _ op_eq ‹21› (@pe_str _ _ _ _) (nomark _)) (@pss_one _ _ _ (@ps_dput _ _ _ _ _ _ _ _ _ (hu1 hr.units) ‹32› ‹25› (@pe_tup _ _ _ _ _ (@pa_Subscript _ _ _ _ _ _ _ ‹39› (@pa_Constant _ _ _ _ _ _ _ ‹24› (@pa_Subscript _ _ _ _ _ _ _ ‹39› (@pa_nil _))))) (by rfl))) (@pss_one _ _ _ (ps_expr (pe_bmK K PySem.F.plainAttrs_dict PySem.F.slot_dict_pop PySem.F.type_dict_pop mt_dpop (pe_fld (pv 0) (by rfl)) (pa_Name (pv 2) pa_nil)))))))),?_⟩
  obtain⟨dx,h1⟩:=hB.self
  obtain⟨kvs,h2,h3⟩:=hB.ent
  have hv:=h3.val (n:=n)
  rw[he]at hv
  obtain⟨v,hv1,t,b,rfl,gt,gb⟩:=hv
  have sq:SqT K H t [.ref b,.int e.2.1,.int e.2.2]:=SqT.of gt
  have dg:DGet H de (.int n) (some (.ref t)):=by
   have:=DGet.k (k:=Sum.inl n) h2
   rw[hv1]at this
   exact this
  have hkl:kvs.length<sizeLine:=by rw[h3.len]; exact Nat.lt_trans hl (by decide)
  refine⟨_,rfl,bk,_,dx,_,_,rfl,h1,T.cl,T.f_entries,rfl,_,rfl,de,_,rfl,dg,?_⟩
  refine⟨_,rfl,rfl,_,rfl,?_⟩
  by_cases k1:k = "out"
  ·rw[if_pos k1]at q
   rw[dstr_eq' k1]
   refine iteT ?_
   refine⟨_,rfl,t,_,_,_,rfl,rfl,sq,atI_nat (j:=0) rfl,_,rfl,t,_,_,_,rfl,rfl,sq,atI_nat (j:=1) rfl,_,_,rfl,rfl,_,rfl,t,_,_,_,rfl,rfl,sq,atI_nat (j:=2) rfl,(by show 3<=sizeLine; decide),fun u hu=>?_⟩
   have S1:=same_upd (o:=.tup [.ref b,.int (e.2.1+1),.int e.2.2]) hu
   generalize eH1:upd H u (.tup [.ref b,.int (e.2.1+1),.int e.2.2])=H1 at S1 ⊢
   have g1:H1 u=some (.tup [.ref b,.int (e.2.1+1),.int e.2.2]):=by rw[<- eH1]; exact upd_same
   have hE:entAt H1 (.ref u) (e.1,e.2.1+1,e.2.2):=⟨u,b,rfl,g1,S1 _ _ gb⟩
   refine⟨_,rfl,bk,_,dx,_,_,rfl,S1 _ _ h1,T.cl,T.f_entries,rfl,_,rfl,de,_,rfl,DPut.k (k:=Sum.inl n) (S1 _ _ h2) hkl,?_⟩
   exact q _ ((Same.frm S1).trans frm_de (.inl rfl)) (bk_ent (hB.same S1) ((h3.t (Same.tup S1)).put hE))
  rw[if_neg k1]at q
  rw[dstr_ne' k1]
  refine iteF ⟨_,rfl,rfl,_,rfl,?_⟩
  by_cases k2:k = "new"
  ·rw[if_pos k2]at q
   rw[dstr_eq' k2]
   refine iteT ?_
   refine⟨_,rfl,t,_,_,_,rfl,rfl,sq,atI_nat (j:=0) rfl,_,rfl,t,_,_,_,rfl,rfl,sq,atI_nat (j:=2) rfl,(by show 3<=sizeLine; decide),fun u hu=>?_⟩
   have S1:=same_upd (o:=.tup [.ref b,.int 0,.int e.2.2]) hu
   generalize eH1:upd H u (.tup [.ref b,.int 0,.int e.2.2])=H1 at S1 ⊢
   have g1:H1 u=some (.tup [.ref b,.int 0,.int e.2.2]):=by rw[<- eH1]; exact upd_same
   have hE:entAt H1 (.ref u) (e.1,0,e.2.2):=⟨u,b,rfl,g1,S1 _ _ gb⟩
   refine⟨_,rfl,bk,_,dx,_,_,rfl,S1 _ _ h1,T.cl,T.f_entries,rfl,_,rfl,de,_,rfl,DPut.k (k:=Sum.inl n) (S1 _ _ h2) hkl,?_⟩
   exact q _ ((Same.frm S1).trans frm_de (.inl rfl)) (bk_ent (hB.same S1) ((h3.t (Same.tup S1)).put hE))
  rw[if_neg k2]at q
  rw[dstr_ne' k2]
  refine iteF ?_
  refine⟨_,rfl,bk,_,dx,_,_,rfl,h1,T.cl,T.f_entries,rfl,.inr (.inr (.inl ⟨rfl,.inl ⟨kvs,h2⟩⟩)),_,rfl,de,kvs,Sum.inl n,_,rfl,rfl,h2,hv1,?_⟩
  exact q _ frm_de (bk_ent hB h3.drop)
theorem sc_Book_letter:FnScope ["self","number","entry"] ["self","number"] (defScope s_letter):=‹0›
theorem ok_letter {f:Addr} {fd:FuncData} (F:Fun K "letter" "Book.letter" s_letter f fd) (T:‹7›):‹9› 1 f fd ["self","number"] (sp_letter C_Book):=by
 refine F.okX sc_Book_letter (fun vs H Q E h=>?_) (fun cdv A outer s H vs Q E hr h=>?_)
 ·obtain⟨bk,de,dp,B,n,e,rfl,_⟩:=h
  rfl
 ·obtain⟨bk,de,dp,B,n,e,rfl,hB,he,q⟩:=h
  refine⟨_,@pss_cons _ _ _ _ _ (@ps_set _ _ (2) _ _ _ _ sc_Book_letter.nd (by rfl) (by first | exact Or.inl (by rfl) | exact Or.inr (by rfl)) ‹51› ⋯ ⋯) (@pss_one _ _ _ (@ps_ret _ _ _ _ (@pe_tup _ _ _ _ _ (@pa_Name _ _ _ _ _ _ ‹21› (@pa_Subscript _ _ _ _ _ _ _ (@pe_ix _ _ _ _ _ _ _ (ix_tupK K) ‹25› ‹24› (fun _ _=>rfl)) (@pa_Subscript _ _ _ _ _ _ _ (@pe_ix _ _ _ _ _ _ _ (ix_tupK K) ‹25› ‹24› (fun _ _=>rfl)) (@pa_nil _))))))),?_⟩
  obtain⟨dx,h1⟩:=hB.self
  obtain⟨kvs,h2,h3⟩:=hB.ent
  have hv:=h3.val (n:=n)
  rw[he]at hv
  obtain⟨v,hv1,t,b,rfl,gt,gb⟩:=hv
  have sq:SqT K H t [.ref b,.int e.2.1,.int e.2.2]:=SqT.of gt
  have dg:DGet H de (.int n) (some (.ref t)):=by
   have:=DGet.k (k:=Sum.inl n) h2
   rw[hv1]at this
   exact this
  refine⟨_,rfl,bk,_,dx,_,_,rfl,h1,T.cl,T.f_entries,rfl,_,rfl,de,_,rfl,dg,?_⟩
  refine⟨_,rfl,_,rfl,t,_,_,_,rfl,rfl,sq,atI_nat (j:=0) rfl,_,rfl,t,_,_,_,rfl,rfl,sq,atI_nat (j:=1) rfl,(by show 3<=sizeLine; decide),fun p hp=>?_⟩
  have S1:=same_upd (o:=.tup [.int n,.ref b,.int e.2.1]) hp
  refine q p _ S1 ?_
  unfold letD
  simp only[Den,Dens]
  exact⟨p,_,rfl,upd_same,_,_,rfl,rfl,_,_,rfl,⟨b,_,rfl,S1 _ _ gb,dens_ints.mpr rfl⟩,_,_,rfl,rfl,rfl⟩
end
def letF (es:List (Int × Ent)) (n:Int):PyData:=letD n ((lookE es n).getD ([],0,0))
def sp_letters (C:Addr):Sp:=fun vs H Q _=>∃ (bk de dp:Addr) (B:Bk),vs=[.ref bk]/\BookAt C H bk de dp B/\B.es.length<64/\
 ∀ ms,List.Perm ms (B.es.map (·.1))->ms.Pairwise (· <= ·)->∀ p H',Same H H'->Den H' (.list (ms.map (letF B.es))) (.ref p)->Q (.ref p) H'
def sp_enter_deal (C C_Broken:Addr):Sp:=fun vs H Q E=>∃ (bk de dp:Addr) (B:Bk) (n m seg:Int),vs=[.ref bk,.int n,.int m,.int seg]/\BookAt C H bk de dp B/\0<=n/\n<=999999/\0<=m/\m<=9/\B.es.length+B.parts.length<900/\
 (∀ B',dealF B n m seg=some B'->∀ dq H',Frm bk de dp H H'->H dq=none->BookAt C H' bk de dq B'->Q .non H')/\(dealF B n m seg=none->∀ H',Frm bk de dp H H'->E (.ref C_Broken) none H')
theorem lookE_in {es:List (Int × Ent)} {n:Int} (h:n∈es.map (·.1)):∃ e,lookE es n=some e:=by
 induction es with
 | nil=>simp at h
 | cons p es ih=>
  by_cases e:p.1=n
  ·exact⟨p.2,by simp [lookE,e]⟩
  ·have:n∈es.map (·.1):=by
    rw[List.map_cons,List.mem_cons]at h
    rcases h with h | h
    ·exact absurd h.symm e
    ·exact h
   obtain⟨x,hx⟩:=ih this
   exact⟨x,by simpa [lookE,e] using hx⟩
theorem let_tup (n:Int) (e:Ent):tupD (letD n e)=true:=by
 have tl:∀ l:List Int,tupDs (l.map PyData.int)=true:=by
  intro l
  induction l with
  | nil=>rfl
  | cons x l ih=>exact ih
 unfold letD
 simp only[tupD,tupDs,Bool.true_and,Bool.and_true]
 exact tl _
theorem dens_of:∀ {H:Hp} {ds:List PyData} {ys:List V},ys.length=ds.length->(∀ (i:Nat) (y:V),ys[i]? = some y->∃ d,ds[i]? = some d/\Den H d y)->Dens H ds ys
 | H,[],[],_,_=>by simp only[Dens]
 | H,d::ds,y::ys,hl,h=>by
  simp only[Dens]
  obtain⟨d',e,h1⟩:=h 0 y rfl
  cases (Option.some.inj e:d=d')
  exact⟨y,ys,rfl,h1,dens_of (by simpa using hl) fun i z hz=>h (i+1) z hz⟩
 | H,[],y::ys,hl,_=>by simp at hl
 | H,d::ds,[],hl,_=>by simp at hl
theorem eqv_intsL (ns ms:List Int):PyData.eqv (.list (ns.map .int)) (.list (ms.map .int))=decide (ns=ms):=by
 show PyData.eqvAll _ _=_
 exact PySem.W.ked_eqvAll ns ms
theorem shaped_intsL (ns:List Int):SeqAt.shaped (.list (ns.map .int))=true:=by
 unfold SeqAt.shaped
 have h1:PyData.canLay0 (.list (ns.map .int))=true:=lay_ints ns
 have h2:PyData.depth (.list (ns.map .int))=1:=by
  show PyData.depthAll (ns.map .int)+1=1
  rw[depth_ints]
 rw[h1,h2]
 rfl
theorem puts_parts (seg:Int):∀ {ps:List (Int × List Int)} {B B':Bk},puts seg B ps=some B'->B'.parts=B.parts
 | [],B,B',h=>by
  cases (Option.some.inj h:B=B')
  rfl
 | p::ps,B,B',h=>by
  unfold puts at h
  cases e:put1 B p.1 p.2 seg with
  | none=>rw[e]at h; cases h
  | some B1=>
   rw[e]at h
   have:=puts_parts seg h
   rw[this]
   unfold put1 at e
   split at e
   ·cases e
   ·cases (Option.some.inj e)
    rfl
section
variable {P:Program} {w:World} {K:PySem.W.Frag} {mg:Str->Option Value} {base:Heap} {a_KINDS C_BadRow C_Broken C_Book:Addr}
theorem sc_Book_letters:FnScope ["self"] ["self"] (defScope s_letters):=‹0›
set_option maxHeartbeats 1000000 in
theorem ok_letters {f:Addr} {fd:FuncData} (F:Fun K "letters" "Book.letters" s_letters f fd) (T:‹7›) (m_letter:‹11› C_Book "letter" 1 ["self","number"] (sp_letter C_Book)):‹9› 2 f fd ["self"] (sp_letters C_Book):=by
 refine F.okX sc_Book_letters (fun vs H Q E h=>?_) (fun cdv A outer s H vs Q E hr h=>?_)
 ·obtain⟨bk,de,dp,B,rfl,_⟩:=h
  rfl
 ·obtain⟨bk,de,dp,B,rfl,hB,hl,q⟩:=h
  refine⟨_,@pss_one _ _ _ (@ps_ret _ _ _ _ (@pe_comp _ _ _ _ _ _ _ _ _ _ _ ["number"] [("self",0)] (by rfl) (@pi_listK _ K _ _ _ (@pe_callB _ _ _ _ _ _ _ _ _ (call_sortedI (by rfl)) (by rfl) T.n_sorted bt_sorted ‹50› ⋯ ⋯ ⋯ ⋯) ⋯) (fun C s2 H2 ex=>(@pg_name _ _ (0) _ (show List.Nodup (["number","self"]:List Str) by decide +kernel) (by rfl) (Or.inl (by rfl)) ⋯)) ‹31› (fun C s2 H2 ex=>(@pe_me _ _ _ _ _ _ _ _ _ _ _ _ _ _ _ m_letter T.cl ‹15› passN ‹21› ‹37› ⋯ ⋯ ⋯)) ⋯ ⋯ ⋯ ⋯)),?_⟩
  obtain⟨dx,h1⟩:=hB.self
  obtain⟨kvs,h2,h3⟩:=hB.ent
  refine⟨_,rfl,bk,_,dx,_,_,rfl,h1,T.cl,T.f_entries,rfl,de,kvs,_,rfl,h2,h3.keys,by rw[List.length_map]; omega,fun p ms perm pw hp=>?_⟩
  have S1:=same_upd (o:=.lst (ms.map .int)) hp
  generalize eH1:upd H p (.lst (ms.map .int))=H1 at S1 ⊢
  have g1:H1 p=some (.lst (ms.map .int)):=by rw[<- eH1]; exact upd_same
  have lm:(ms.map V.int).length=ms.length:=List.length_map _
  have pl:=perm.length_eq
  rw[List.length_map]at pl
  refine⟨p,rfl,⟨_,SqL.of g1⟩,?_⟩
  refine comp_src (src_list (K:=K) (SqL.of g1)) ?zl (fun i y H'=>∃ n,ms[i]? = some n/\Den H' (letF B.es n) y) (fun i y H1 H2 s h=>by obtain⟨n,e,h⟩:=h; exact⟨n,e,h.n s (let_tup _ _)⟩) (fun σ=>∃ z,σ = [z,some (.ref bk)]) ?z0 ?_ ?_
  case zl=>
   rw[lm,pl]
   exact Nat.le_of_lt (Nat.lt_trans hl (by decide))
  case z0=>exact⟨none,rfl⟩
  ·intro i x σc H3 hi hσ s3 hx Q' hQ'
   obtain⟨z,rfl⟩:=hσ
   rw[List.getElem?_map]at hx
   cases e:ms[i]? with
   | none=>rw[e]at hx; cases hx
   | some n=>
    rw[e]at hx
    cases hx
    have hin:n∈B.es.map (·.1):=perm.mem_iff.mp (List.mem_of_getElem? e)
    obtain⟨en,hen⟩:=lookE_in hin
    have S13:Same H H3:=S1.trans s3
    refine⟨_,rfl,bk,dx,_,rfl,S13 _ _ h1,rfl,_,rfl,bk,de,dp,B,n,en,rfl,hB.same S13,hen,fun p4 H4 S4 d4=>?_⟩
    refine hQ' _ _ _ ⟨_,rfl⟩ S4 ⟨n,e,?_⟩
    unfold letF
    rw[hen]
    exact d4
  ·intro D ys H' hD s' hD' hlen hR
   refine q ms perm pw D H' (S1.trans s') ?_
   simp only[Den]
   refine⟨D,ys,rfl,hD',dens_of (by rw[List.length_map,hlen,lm]) fun i y e=>?_⟩
   obtain⟨n,e1,e2⟩:=hR i y e
   exact⟨_,by rw[List.getElem?_map,e1]; rfl,e2⟩
theorem sc_Book_enter_deal:FnScope ["self","number","many","segment","parts","part"] ["self","number","many","segment"] (defScope s_enter_deal):=‹0›
set_option maxHeartbeats 1000000 in
theorem ok_enter_deal {f:Addr} {fd:FuncData} (F:Fun K "enter_deal" "Book.enter_deal" s_enter_deal f fd) (T:‹7›) (m_enter_put:‹11› C_Book "enter_put" 1 ["self","number","body","segment"] (sp_enter_put C_Book C_Broken)):‹9› 2 f fd ["self","number","many","segment"] (sp_enter_deal C_Book C_Broken):=by
 refine F.okX sc_Book_enter_deal (fun vs H Q E h=>?_) (fun cdv A outer s H vs Q E hr h=>?_)
 ·obtain⟨bk,de,dp,B,n,m,seg,rfl,_⟩:=h
  rfl
 ·obtain⟨bk,de,dp,B,n,m,seg,rfl,hB,n0,n9,m0,m9,hl,q,qe⟩:=h
  refine⟨_,@pss_cons _ _ _ _ _ (@ps_set _ _ (4) _ _ _ _ sc_Book_enter_deal.nd (by rfl) (by first | exact Or.inl (by rfl) | exact Or.inr (by rfl)) ‹32› ⋯ ⋯) (@pss_cons _ _ _ _ _ (@ps_fld _ _ _ _ _ _ _ _ ‹20› (@pe_lst _ _ _ _ (@pa_nil _)) (by rfl)) (@pss_cons _ _ _ _ _ (@ps_if _ _ _ _ _ _ _ _ (@pt_cmpR _ _ _ _ _ _ _ _ (op_neD hr.units) (@pe_comp _ _ _ _ _ _ _ _ _ _ _ ["part"] [] (by rfl) (@pi_listK _ K _ _ _ ‹28› ⋯) (fun C s2 H2 ex=>(@pg_name _ _ (0) _ (show List.Nodup (["part"]:List Str) by decide +kernel) (by rfl) (Or.inl (by rfl)) ⋯)) ‹31› (fun C s2 H2 ex=>‹36›) ⋯ ⋯ ⋯ ⋯) (@pe_listRng _ _ _ _ _ _ _ _ (by rfl) (by rfl) T.n_list (by rfl) T.n_range (@pa_Name _ _ _ _ _ _ ‹21› (@pa_BinOp _ _ _ _ _ _ _ _ (@pe_op _ _ _ _ _ _ _ _ op_add ‹21› ‹25›) (@pa_nil _))) ⋯ ⋯ ⋯) (nomark _)) ‹22› (@pss_nil _)) (@pss_one _ _ _ (@ps_for _ _ _ _ _ _ _ _ (ownB own_cx) (by rfl) (@pi_listK _ K _ _ _ ‹28› ⋯) (@pg_name _ _ (5) _ sc_Book_enter_deal.nd (by rfl) (by first | exact Or.inl (by rfl) | exact Or.inr (by rfl)) ⋯) (@pss_one _ _ _ (ps_expr (pe_me m_enter_put T.cl ‹15› passS (pv 0) (pa_Subscript (pe_ix (ix_tupK K) (pv 5) pe_int (fun _ _=>rfl)) (pa_Subscript (pe_ix (ix_tupK K) (pv 5) pe_int (fun _ _=>rfl)) (pa_Name (pv 3) pa_nil)))))) ⋯)))),?_⟩
  obtain⟨dx,h1⟩:=hB.self
  obtain⟨ps,h4,h5⟩:=hB.par
  obtain⟨ne1,ne2,ne3⟩:=hB.ne
  refine⟨_,rfl,bk,_,dx,_,_,rfl,h1,T.cl,T.f_parts,rfl,?_⟩
  refine⟨(by show 0<=sizeLine; decide),fun dq hdq=>?_⟩
  have S1:=same_upd (o:=.lst []) hdq
  generalize eH1:upd H dq (.lst [])=H1 at S1 ⊢
  have g1:H1 dq=some (.lst []):=by rw[<- eH1]; exact upd_same
  refine⟨_,rfl,bk,_,dx,_,rfl,S1 _ _ h1,T.cl,T.f_parts,(by show 3<1000; decide),?_⟩
  have hB2:=bk_self (hB.same S1) (dx:=dx) B.up (parts:=[]) g1 (by simp only[partsD,List.map_nil,Dens])
  have F2:Frm bk de dp H (upd H1 bk (.ins C_Book dx (bkF de dq B.up))):=(Same.frm S1).trans frm_bk (.inl rfl)
  have g2:upd H1 bk (.ins C_Book dx (bkF de dq B.up)) dp=some (.lst ps):=by rw[upd_ne (Ne.symm ne2)]; exact S1 _ _ h4
  have T2:TupS H (upd H1 bk (.ins C_Book dx (bkF de dq B.up))):=hB.tup F2
  rw[putF_parts]
  generalize upd H1 bk (.ins C_Book dx (bkF de dq B.up))=H2 at hB2 F2 g2 T2 ⊢
  have d2:Dens H2 (partsD B.parts) ps:=dens_t T2 (parts_tup _) h5
  have lp:ps.length=B.parts.length:=by rw[h5.length]; unfold partsD; rw[List.length_map]
  have hdq0:dq≠dp:=fun z=>by rw[z,h4]at hdq; cases hdq
  refine⟨_,rfl,dp,rfl,⟨_,SqL.of g2⟩,?_⟩
  refine comp_src (src_list (K:=K) (SqL.of g2)) ?zl (fun i y _=>∃ p,B.parts[i]? = some p/\y = .int p.1) (fun i y H1 H2 s h=>h) (fun σ=>σ.length=1) ?z0 ?_ ?_
  case zl=>
   rw[lp]
   exact Nat.le_of_lt (Nat.lt_trans (show _<900 by omega) (by decide))
  case z0=>rfl
  ·intro i x σc H3 hi hσ s3 hx Q' hQ'
   obtain⟨d,hd,dn⟩:=d2.get hx
   unfold partsD at hd
   rw[List.getElem?_map]at hd
   cases e:B.parts[i]? with
   | none=>rw[e]at hd; cases hd
   | some pr=>
    rw[e]at hd
    cases (Option.some.inj hd:rowT "part" pr.1 pr.2=d)
    have dn':=dn.same s3
    unfold rowT at dn'
    simp only[Den,Dens]at dn'
    obtain⟨t,xt,rfl,gt,y0,r0,f0,f1,y1,r1,f2,f3,y2,r2,f4,⟨pb,yb,f5,gb,db⟩,f6⟩:=dn'
    subst f6 f5 f4 f3 f2 f1 f0
    match σc,hσ with
    | [z],_=>
     refine⟨_,rfl,t,_,_,_,rfl,rfl,SqT.of gt,atI_nat (j:=1) rfl,?_⟩
     exact hQ' _ _ _ rfl (Same.refl _) ⟨pr,e,rfl⟩
  intro D ys H3 hD S3 g3 hlen hR
  have ey:ys=(B.parts.map (·.1)).map V.int:=by
   apply List.ext_getElem?
   intro i
   cases e:ys[i]? with
   | none=>
    have:ys.length<=i:=List.getElem?_eq_none_iff.mp e
    rw[List.getElem?_eq_none (by rw[List.length_map,List.length_map]; omega)]
   | some y=>
    obtain⟨p,e1,e2⟩:=hR i y e
    rw[List.getElem?_map,List.getElem?_map,e1,e2]
    rfl
  have hmz:(n+m - n).toNat=m.toNat:=by omega
  refine⟨_,rfl,_,rfl,_,rfl,_,_,rfl,rfl,n,n+m,rfl,⟨by omega,by omega,by omega,by omega⟩,Nat.le_trans (show _<=9 by omega) (by decide),fun p4 hp4=>?_⟩
  rw[hmz]
  have er:((List.range m.toNat).map fun(k:Nat)=>V.int (n+(k:Int)))=((List.range m.toNat).map fun(k:Nat)=>n+(k:Int)).map V.int:=by rw[List.map_map]; rfl
  rw[er]
  have S4:=same_upd (o:=.lst (((List.range m.toNat).map fun(k:Nat)=>n+(k:Int)).map V.int)) hp4
  generalize eH4:upd H3 p4 (.lst (((List.range m.toNat).map fun(k:Nat)=>n+(k:Int)).map V.int))=H4 at S4 ⊢
  have g4:H4 p4=some (.lst (((List.range m.toNat).map fun(k:Nat)=>n+(k:Int)).map V.int)):=by rw[<- eH4]; exact upd_same
  have dA:Den H4 (.list ((B.parts.map (·.1)).map .int)) (.ref D):=by
   simp only[Den]
   exact⟨D,ys,rfl,S4 _ _ g3,by rw[ey]; exact dens_ints.mpr rfl⟩
  have dB:Den H4 (.list (((List.range m.toNat).map fun(k:Nat)=>n+(k:Int)).map .int)) (.ref p4):=by
   simp only[Den]
   exact⟨p4,_,rfl,g4,dens_ints.mpr rfl⟩
  refine⟨_,_,dA,dB,shaped_intsL _,shaped_intsL _,_,rfl,?_⟩
  rw[eqv_intsL]
  have F4:Frm bk de dp H H4:=F2.trans (Same.frm (S3.trans S4)) (.inl rfl)
  unfold dealF at q qe
  by_cases hc:B.parts.map (·.1)=(List.range m.toNat).map fun(k:Nat)=>n+(k:Int)
  case neg=>
   rw[if_neg hc]at qe
   rw[decide_eq_false hc]
   exact iteT ⟨(by show 1<=sizeLine; decide),qe rfl H4 F4⟩
  rw[if_pos hc]at q qe
  rw[decide_eq_true hc]
  refine iteF ?_
  refine go_next rfl ?_
  have hB4:=hB2.same (S3.trans S4)
  have gd4:H4 dp=some (.lst ps):=S4 _ _ (S3 _ _ g2)
  have d4:Dens H4 (partsD B.parts) ps:=(d2.same S3).same S4
  refine⟨_,rfl,dp,rfl,⟨_,SqL.of gd4⟩,?_⟩
  have sq0:SqL K (fun a=>if a=dp then some (.lst ps) else none) dp ps:=SqL.of (if_pos rfl)
  refine for_src0 (H0:=fun a=>if a=dp then some (.lst ps) else none) (src_list (K:=K) sq0) (fun i σ H'=>H' dp=some (.lst ps)/\TupS H4 H'/\Frm bk de dp H H'/\i<=B.parts.length/\∃ Bi z5,BookAt C_Book H' bk de dq Bi/\Bi.es.length<=B.es.length+i/\puts seg ⟨B.es,B.up,[]⟩ B.parts=puts seg Bi (B.parts.drop i)/\σ = [some (.ref bk),some (.int n),some (.int m),some (.int seg),some (.ref dp),z5]) ?i0 ?kp ?_ ?_
  case i0=>exact⟨gd4,fun _ _ e=>e,F4,Nat.zero_le _,_,none,hB4,Nat.le_refl _,rfl,rfl⟩
  case kp=>
   intro i σ H' h b o e
   by_cases z:b=dp
   ·subst z
    have e:some (HO.lst ps)=some o:=by simpa using e
    rw[<- e]
    exact h.1
   ·have e:none=some o:=by simpa [z] using e
    cases e
  ·rintro i x σ H5 H6 hi ⟨gd5,t5,f5,hiL,Bi,z5,hBi,hle,hpu,rfl⟩ s6 hx
   obtain⟨d,hd,dn⟩:=d4.get hx
   unfold partsD at hd
   rw[List.getElem?_map]at hd
   cases e:B.parts[i]? with
   | none=>rw[e]at hd; cases hd
   | some pr=>
    rw[e]at hd
    cases (Option.some.inj hd:rowT "part" pr.1 pr.2=d)
    have dn':=den_t (t5.trans (Same.tup s6)) (row_tup _ _ _) dn
    unfold rowT at dn'
    simp only[Den,Dens]at dn'
    obtain⟨t,xt,rfl,gt,y0,r0,f0,f1,y1,r1,f2,f3,y2,r2,f4,⟨pb,yb,f5',gb,db⟩,f6⟩:=dn'
    have eb:=dens_ints.mp db
    subst eb f6 f5' f4 f3 f2 f1 f0
    have iL:i<B.parts.length:=(List.getElem?_eq_some_iff.mp e).1
    have ed:B.parts.drop i=pr::B.parts.drop (i+1):=by
     rw[List.drop_eq_getElem_cons iL]
     have:=(List.getElem?_eq_some_iff.mp e).2
     rw[this]
    rw[ed]at hpu
    have hB6:=hBi.same s6
    obtain⟨dx6,h16⟩:=hB6.self
    refine⟨_,rfl,bk,dx6,_,rfl,h16,rfl,_,rfl,t,_,_,_,rfl,rfl,SqT.of gt,atI_nat (j:=1) rfl,_,rfl,t,_,_,_,rfl,rfl,SqT.of gt,atI_nat (j:=2) rfl,_,rfl,bk,de,dq,pb,Bi,pr.1,seg,pr.2,rfl,hB6,gb,by omega,fun B' hB' H7 f7 hB7=>?_,fun hn H7 f7=>?_⟩
    ·have hdq':dq=dp\/H dq=none:=.inr hdq
     have f67:Frm bk de dp H H7:=(f5.trans (Same.frm (dp:=dp) s6) (.inl rfl)).trans f7 hdq'
     refine⟨f7 _ _ (s6 _ _ gd5) (Ne.symm ne2) (fun z=>ne3 z.symm) (Ne.symm hdq0),(t5.trans (Same.tup s6)).trans (hB6.tup f7),f67,iL,B',_,hB7,?_,?_,rfl⟩
     ·unfold put1 at hB'
      split at hB'
      ·cases hB'
      ·cases (Option.some.inj hB')
       have:=putE_len Bi.es pr.1 (pr.2,0,seg)
       show (putE Bi.es pr.1 (pr.2,0,seg)).length<=_
       omega
     ·rw[hpu]
      show (match put1 Bi pr.1 pr.2 seg with | none=>none | some B'=>puts seg B' (B.parts.drop (i+1)))=_
      rw[hB']
    ·refine qe ?_ H7 ((f5.trans (Same.frm (dp:=dp) s6) (.inl rfl)).trans f7 (.inr hdq))
     rw[hpu]
     show (match put1 Bi pr.1 pr.2 seg with | none=>none | some B'=>puts seg B' (B.parts.drop (i+1)))=none
     rw[hn]
  ·rintro σ H5 ⟨gd5,t5,f5,hiL,Bi,z5,hBi,hle,hpu,rfl⟩
   rw[lp,List.drop_of_length_le (Nat.le_refl _)]at hpu
   exact q Bi hpu dq H5 f5 hdq hBi
end
def sp_enter (C C_Broken:Addr):Sp:=fun vs H Q E=>∃ (bk de dp pr:Addr) (B:Bk) (k:Str) (n seg:Int) (body:List Int),vs=[.ref bk,.ref pr,.int seg]/\BookAt C H bk de dp B/\Den H (rowT k n body) (.ref pr)/\isRowD (rowT k n body)=true/\B.es.length+B.parts.length<900/\
 (∀ B',enterF B k n body seg=some B'->∀ dq H',Frm bk de dp H H'->(dq=dp\/H dq=none)->BookAt C H' bk de dq B'->Q .non H')/\(enterF B k n body seg=none->∀ H',Frm bk de dp H H'->E (.ref C_Broken) none H')
def sp_init (C:Addr):Sp:=fun vs H Q _=>∃ (bk dx:Addr),vs=[.ref bk]/\H bk=some (.ins C dx [])/\∀ de dp H',(∀ b o,H b=some o->b≠bk->H' b=some o)->H de=none->H dp=none->BookAt C H' bk de dp ⟨[],0,[]⟩->Q .non H'
theorem row_facts {k:Str} {n:Int} {body:List Int} (h:isRowD (rowT k n body)=true):k∈kinds/\0<=n/\n<=999999/\(k = "deal"->1<=body.length/\1<=body.getD 0 0/\body.getD 0 0<=9)/\(k = "carried"->1<=body.length)/\body.length<=61:=by
 unfold rowT at h
 simp only[isRowD,Bool.and_eq_true]at h
 obtain⟨h1,h2,h3,h4⟩:=h
 rw[ints_int]at h4
 simp only[isNum,Bool.and_eq_true,decide_eq_true_eq]at h2
 refine⟨by simpa using h1,h2.1,h2.2,?_,?_,?_⟩
 ·rintro rfl
  unfold fitsK at h4
  rw[if_neg (by decide),if_neg (by decide),if_pos rfl]at h4
  simp only[Bool.and_eq_true,decide_eq_true_eq]at h4
  obtain⟨⟨l1,l2⟩,l3⟩:=h4
  match body,l1,l2,l3 with
  | [x],_,l2,l3=>exact⟨Nat.le_refl _,l2,l3⟩
 ·rintro rfl
  unfold fitsK at h4
  rw[if_neg (by decide),if_pos rfl]at h4
  simp only[Bool.and_eq_true,decide_eq_true_eq]at h4
  exact h4.1.1
 ·unfold fitsK at h4
  split at h4
  ·have:=of_decide_eq_true h4
   omega
  ·split at h4
   ·simp only[Bool.and_eq_true,decide_eq_true_eq]at h4
    omega
   ·split at h4
    ·simp only[Bool.and_eq_true,decide_eq_true_eq]at h4
     omega
    ·have:=of_decide_eq_true h4
     omega
theorem cut_from1 {xs:List V} (h:1<=xs.length):cutV xs (some 1) none=xs.drop 1:=by
 unfold cutV
 have e:HT.sIx xs.length 0 (some 1)=1:=(HT.sIx_nat xs.length 0 1).trans (Nat.min_eq_left h)
 rw[e,HT.sIx_none,List.take_of_length_le (by rw[List.length_drop]; omega)]
section
variable {P:Program} {w:World} {K:PySem.W.Frag} {mg:Str->Option Value} {base:Heap} {a_KINDS C_BadRow C_Broken C_Book:Addr}
theorem sc_Book___init__:FnScope ["self"] ["self"] (defScope s_init):=‹0›
theorem ok_init {f:Addr} {fd:FuncData} (F:Fun K "__init__" "Book.__init__" s_init f fd) (T:‹7›):‹9› 1 f fd ["self"] (sp_init C_Book):=by
 refine F.okX sc_Book___init__ (fun vs H Q E h=>?_) (fun cdv A outer s H vs Q E hr h=>?_)
 ·obtain⟨bk,dx,rfl,_⟩:=h
  rfl
 ·obtain⟨bk,dx,rfl,h1,q⟩:=h
  refine⟨_,@pss_cons _ _ _ _ _ (@ps_fld _ _ _ _ _ _ _ _ ‹20› (@pe_dnewK _ _) (by rfl)) (@pss_cons _ _ _ _ _ (@ps_fld _ _ _ _ _ _ _ _ ‹20› ‹24› (by rfl)) (@pss_one _ _ _ (@ps_fld _ _ _ _ _ _ _ _ ‹20› (@pe_lst _ _ _ _ (@pa_nil _)) (by rfl)))),?_⟩
  refine fun de hde=>?_
  have nde:bk≠de:=fun z=>by rw[z,hde]at h1; cases h1
  refine⟨_,rfl,bk,_,dx,_,rfl,by rw[upd_ne nde]; exact h1,T.cl,T.f_entries,(by show 0<1000; decide),?_⟩
  refine⟨_,rfl,bk,_,dx,_,rfl,upd_same,T.cl,T.f_upcoming,(by show 1<1000; decide),?_⟩
  refine⟨(by show 0<=sizeLine; decide),fun dp hdp=>?_⟩
  generalize eH1:upd (upd (upd H de (.dK [])) bk (.ins C_Book dx (putF "entries" (.ref de) []))) bk (.ins C_Book dx (putF "upcoming" (.int 0) (putF "entries" (.ref de) [])))=H1 at hdp ⊢
  have k1:H1 bk=some (.ins C_Book dx (putF "upcoming" (.int 0) (putF "entries" (.ref de) []))):=by rw[<- eH1]; exact upd_same
  have k2:H1 de=some (.dK []):=by rw[<- eH1,upd_ne (Ne.symm nde),upd_ne (Ne.symm nde)]; exact upd_same
  have k3:∀ b o,H b=some o->b≠bk->H1 b=some o:=fun b o e nb=>by
   rw[<- eH1,upd_ne nb,upd_ne nb,upd_ne (fun z=>by rw[z,hde]at e; cases e)]
   exact e
  have ndp:bk≠dp:=fun z=>by rw[<- z,k1]at hdp; cases hdp
  have nd2:de≠dp:=fun z=>by rw[<- z,k2]at hdp; cases hdp
  have hdp0:H dp=none:=by
   cases e:H dp with
   | none=>rfl
   | some o=>rw[k3 dp o e (Ne.symm ndp)]at hdp; cases hdp
  refine⟨_,rfl,bk,_,dx,_,rfl,by rw[upd_ne ndp]; exact k1,T.cl,T.f_parts,(by show 2<1000; decide),?_⟩
  refine q de dp _ (fun b o e nb=>?_) hde hdp0 ⟨⟨dx,?_⟩,⟨[],?_,trivial⟩,⟨[],?_,by simp only[partsD,List.map_nil,Dens]⟩⟩
  ·rw[upd_ne nb,upd_ne (fun z=>by rw[z,hdp0]at e; cases e)]
   exact k3 b o e nb
  ·rw[upd_same]
   rfl
  ·rw[upd_ne (Ne.symm nde),upd_ne nd2]
   exact k2
  ·rw[upd_ne (Ne.symm ndp)]
   exact upd_same
theorem sc_Book_enter:FnScope ["self","row","segment","kind","number","body"] ["self","row","segment"] (defScope s_enter):=‹0›
set_option maxHeartbeats 2000000 in
theorem ok_enter {f:Addr} {fd:FuncData} (F:Fun K "enter" "Book.enter" s_enter f fd) (T:‹7›) (m_enter_put:‹11› C_Book "enter_put" 1 ["self","number","body","segment"] (sp_enter_put C_Book C_Broken))
  (m_enter_deal:‹11› C_Book "enter_deal" 2 ["self","number","many","segment"] (sp_enter_deal C_Book C_Broken)) (m_change_entry:‹11› C_Book "change_entry" 1 ["self","kind","number"] (sp_change C_Book)):‹9› 3 f fd ["self","row","segment"] (sp_enter C_Book C_Broken):=by
 refine F.okX sc_Book_enter (fun vs H Q E h=>?_) (fun cdv A outer s H vs Q E hr h=>?_)
 ·obtain⟨bk,de,dp,pr,B,k,n,seg,body,rfl,_⟩:=h
  rfl
 ·obtain⟨bk,de,dp,pr,B,k,n,seg,body,rfl,hB,hd,hrow,hl,q,qe⟩:=h
  refine⟨_,@pss_cons _ _ _ _ _ (@ps_set _ _ (3) _ _ _ _ sc_Book_enter.nd (by rfl) (by first | exact Or.inl (by rfl) | exact Or.inr (by rfl)) ‹35› ⋯ ⋯) (@pss_cons _ _ _ _ _ (@ps_set _ _ (4) _ _ _ _ sc_Book_enter.nd (by rfl) (by first | exact Or.inl (by rfl) | exact Or.inr (by rfl)) ‹35› ⋯ ⋯) (@pss_cons _ _ _ _ _ (@ps_set _ _ (5) _ _ _ _ sc_Book_enter.nd (by rfl) (by first | exact Or.inl (by rfl) | exact Or.inr (by rfl)) ‹35› ⋯ ⋯) (@pss_one _ _ _ (@ps_if _ _ _ _ _ _ _ _ ‹45› (@pss_one _ _ _ (ps_expr (pe_bmK K PySem.F.plainAttrs_list PySem.F.slot_list_append PySem.F.type_list_append mt_append (pe_fld (pv 0) (by rfl)) (pa_Name (pv 1) pa_nil)))) (@pss_one _ _ _ (@ps_if _ _ _ _ _ _ _ _ ‹45› (@pss_one _ _ _ (ps_expr (pe_me m_enter_deal T.cl ‹15› passS (pv 0) (pa_Name (pv 4) (pa_Subscript (pe_ix (ix_tupK K) (pv 5) pe_int (fun _ _=>rfl)) (pa_Name (pv 2) pa_nil)))))) (@pss_one _ _ _ (@ps_if _ _ _ _ _ _ _ _ (@pt_listK _ K _ _ ‹32› ⋯ ⋯) ‹22› (@pss_one _ _ _ (@ps_if _ _ _ _ _ _ _ _ ‹45› (@pss_one _ _ _ (ps_expr (pe_me m_enter_put T.cl ‹15› passS (pv 0) (pa_Name (pv 4) (pa_Name (pv 5) (pa_Name (pv 2) pa_nil)))))) (@pss_one _ _ _ (@ps_if _ _ _ _ _ _ _ _ ‹45› (@pss_one _ _ _ (@ps_fld _ _ _ _ _ _ _ _ ‹20› (@pe_callB _ _ _ _ _ _ _ _ _ (call_max2 (by rfl)) (by rfl) T.n_max bt_max (@pa_Attribute _ _ _ _ _ _ _ ‹32› (@pa_Name _ _ _ _ _ _ ‹28› (@pa_nil _))) ⋯ ⋯ ⋯ ⋯) (by rfl))) (@pss_one _ _ _ (@ps_if _ _ _ _ _ _ _ _ ‹45› (@pss_cons _ _ _ _ _ (@ps_dput _ _ _ _ _ _ _ _ _ (hu1 hr.units) ‹32› ‹28› (@pe_tup _ _ _ _ _ (@pa_Subscript _ _ _ _ _ _ _ (@pe_slice _ _ _ _ _ _ _ _ _ _ (sl_tupK K) ‹30› (@po_some _ _ _ ‹24›) (@po_none _)) (@pa_Subscript _ _ _ _ _ _ _ (@pe_ix _ _ _ _ _ _ _ (ix_tupK K) ‹30› ‹24› (fun _ _=>rfl)) ‹47›))) (by rfl)) (@pss_one _ _ _ (@ps_fld _ _ _ _ _ _ _ _ ‹20› (@pe_callB _ _ _ _ _ _ _ _ _ (call_max2 (by rfl)) (by rfl) T.n_max bt_max (@pa_Attribute _ _ _ _ _ _ _ ‹32› (@pa_BinOp _ _ _ _ _ _ _ _ (@pe_op _ _ _ _ _ _ _ _ op_add ‹28› ‹24›) (@pa_nil _))) ⋯ ⋯ ⋯ ⋯) (by rfl)))) (@pss_one _ _ _ (@ps_if _ _ _ _ _ _ _ _ (@pt_cmp _ _ _ _ _ _ (@pc_din _ _ _ _ _ (hu1 hr.units) ‹28› ‹32›) ⋯) (@pss_one _ _ _ (ps_expr (pe_me m_change_entry T.cl ‹15› passN (pv 0) (pa_Name (pv 3) (pa_Name (pv 4) pa_nil))))) (@pss_nil _))))))))))))))))),?_⟩
  obtain⟨hk,n0,n9,hdeal,hcar,hbl⟩:=row_facts hrow
  obtain⟨dx,h1⟩:=hB.self
  obtain⟨kvs,h2,h3⟩:=hB.ent
  obtain⟨ps,h4,h5⟩:=hB.par
  have hd':=hd
  unfold rowT at hd'
  simp only[Den,Dens]at hd'
  obtain⟨t,xt,et,gt,y0,r0,f0,f1,y1,r1,f2,f3,y2,r2,f4,⟨pb,yb,f5,gb,db⟩,f6⟩:=hd'
  have eb:=dens_ints.mp db
  cases et
  subst eb f6 f5 f4 f3 f2 f1 f0
  have sq:SqT K H pr [.str k,.int n,.ref pb]:=SqT.of gt
  have sqb:SqT K H pb (body.map V.int):=SqT.of gb
  have lp:ps.length=B.parts.length:=by rw[h5.length]; unfold partsD; rw[List.length_map]
  have hkl:kvs.length<sizeLine:=by rw[h3.len]; exact Nat.lt_trans (show _<900 by omega) (by decide)
  refine⟨_,rfl,pr,_,_,_,rfl,rfl,sq,atI_nat (j:=0) rfl,_,rfl,pr,_,_,_,rfl,rfl,sq,atI_nat (j:=1) rfl,_,rfl,pr,_,_,_,rfl,rfl,sq,atI_nat (j:=2) rfl,?_⟩
  unfold enterF at q qe
  refine⟨_,rfl,rfl,_,rfl,?_⟩
  by_cases k1:k = "part"
  ·rw[if_pos k1]at q
   rw[dstr_eq' k1]
   refine iteT ?_
   refine⟨_,rfl,bk,_,dx,_,_,rfl,h1,T.cl,T.f_parts,rfl,.inl ⟨rfl,_,SqL.of h4⟩,_,rfl,dp,_,_,rfl,rfl,h4,by rw[lp]; exact Nat.lt_trans (show _<900 by omega) (by decide),?_⟩
   refine q _ rfl dp _ frm_dp (.inl rfl) (bk_app hB ?_)
   show Dens H (partsD (B.parts++[(n,body)])) (ps++[.ref pr])
   unfold partsD
   rw[List.map_append]
   refine h5.app (dens_one ?_)
   rw[<- k1]
   exact hd
  rw[if_neg k1]at q qe
  rw[dstr_ne' k1]
  refine iteF ⟨_,rfl,rfl,_,rfl,?_⟩
  by_cases k2:k = "deal"
  ·rw[if_pos k2]at q qe
   rw[dstr_eq' k2]
   refine iteT ?_
   obtain⟨b1,b2,b3⟩:=hdeal k2
   have at0:atI (body.map V.int) 0=some (.int (body.getD 0 0)):=by
    refine atI_nat (j:=0) ?_
    rw[List.getElem?_map,List.getD_eq_getElem?_getD,List.getElem?_eq_getElem (by omega)]
    rfl
   refine⟨_,rfl,bk,dx,_,rfl,h1,rfl,_,rfl,_,rfl,pb,_,_,_,rfl,rfl,sqb,at0,_,rfl,bk,de,dp,B,n,body.getD 0 0,seg,rfl,hB,n0,n9,by omega,b3,hl,fun B' hB' dq H' f' hq h'=>q B' hB' dq H' f' (.inr hq) h',fun hn H' f'=>qe hn H' f'⟩
  rw[if_neg k2]at q qe
  rw[dstr_ne' k2]
  refine iteF ?_
  refine⟨_,rfl,bk,_,dx,_,_,rfl,h1,T.cl,T.f_parts,rfl,dp,ps,rfl,SqL.of h4,?_⟩
  by_cases kp:B.parts=[]
  case neg=>
   rw[if_pos kp]at qe
   have:(!ps.isEmpty)=true:=by
    cases ps with
    | nil=>
     rw[List.length_nil]at lp
     exact absurd (List.length_eq_zero_iff.mp lp.symm) kp
    | cons _ _=>rfl
   rw[this]
   exact iteT ⟨(by show 1<=sizeLine; decide),qe rfl H (Frm.refl _ _ _ _)⟩
  rw[if_neg (fun z=>z kp)]at q qe
  have:(!ps.isEmpty)=false:=by
   cases ps with
   | nil=>rfl
   | cons _ _=>
    rw[kp]at lp
    simp at lp
  rw[this]
  refine iteF ⟨_,rfl,rfl,_,rfl,?_⟩
  by_cases k3:k = "put"
  ·rw[if_pos k3]at q qe
   rw[dstr_eq' k3]
   refine iteT ?_
   refine⟨_,rfl,bk,dx,_,rfl,h1,rfl,_,rfl,_,rfl,_,rfl,bk,de,dp,pb,B,n,seg,body,rfl,hB,gb,by omega,fun B' hB' H' f' h'=>q B' hB' dp H' f' (.inl rfl) h',fun hn H' f'=>qe hn H' f'⟩
  rw[if_neg k3]at q qe
  rw[dstr_ne' k3]
  refine iteF ⟨_,rfl,rfl,_,rfl,?_⟩
  by_cases k4:k = "from"
  ·rw[if_pos k4]at q
   rw[dstr_eq' k4]
   refine iteT ?_
   refine⟨_,rfl,bk,_,dx,_,_,rfl,h1,T.cl,T.f_upcoming,rfl,_,rfl,_,_,rfl,_,rfl,bk,_,dx,_,rfl,h1,T.cl,T.f_upcoming,(by show 3<1000; decide),?_⟩
   exact q _ rfl dp _ frm_bk (.inl rfl) (bk_self hB (maxI B.up n) h4 h5)
  rw[if_neg k4]at q qe
  rw[dstr_ne' k4]
  refine iteF ⟨_,rfl,rfl,_,rfl,?_⟩
  by_cases k5:k = "carried"
  ·rw[if_pos k5]at q
   rw[dstr_eq' k5]
   refine iteT ?_
   have b1:=hcar k5
   have at0:atI (body.map V.int) 0=some (.int (body.getD 0 0)):=by
    refine atI_nat (j:=0) ?_
    rw[List.getElem?_map,List.getD_eq_getElem?_getD,List.getElem?_eq_getElem (by omega)]
    rfl
   refine⟨_,rfl,_,rfl,?_⟩
   dsimp only[tNoPart]
   refine sl_both gb fun p5 H5 S5 g5=>?_
   rw[cut_from1 (by rw[List.length_map]; exact b1),<- List.map_drop]at g5
   refine⟨_,rfl,pb,_,_,_,rfl,rfl,S5.seqT sqb,at0,_,rfl,(by show 3<=sizeLine; decide),fun u hu=>?_⟩
   have S6:=same_upd (o:=.tup [.ref p5,.int (body.getD 0 0),.int seg]) hu
   generalize eH6:upd H5 u (.tup [.ref p5,.int (body.getD 0 0),.int seg])=H6 at S6 ⊢
   have g6:H6 u=some (.tup [.ref p5,.int (body.getD 0 0),.int seg]):=by rw[<- eH6]; exact upd_same
   have S06:Same H H6:=S5.trans S6
   have hE:entAt H6 (.ref u) (body.drop 1,body.getD 0 0,seg):=⟨u,p5,rfl,g6,S6 _ _ g5⟩
   refine⟨_,rfl,bk,_,dx,_,_,rfl,S06 _ _ h1,T.cl,T.f_entries,rfl,_,rfl,de,_,rfl,DPut.k (k:=Sum.inl n) (S06 _ _ h2) hkl,?_⟩
   have hB7:=bk_ent (hB.same S06) ((h3.t (Same.tup S06)).put (n:=n) hE)
   have F7:Frm bk de dp H6 (upd H6 de (.dK (putK kvs (Sum.inl n) (.ref u)))):=frm_de
   generalize upd H6 de (.dK (putK kvs (Sum.inl n) (.ref u)))=H7 at hB7 F7 ⊢
   obtain⟨dx7,h17⟩:=hB7.self
   obtain⟨ps7,h47,h57⟩:=hB7.par
   refine⟨_,rfl,bk,_,dx7,_,_,rfl,h17,T.cl,T.f_upcoming,rfl,_,rfl,_,_,rfl,rfl,_,_,rfl,_,rfl,bk,_,dx7,_,rfl,h17,T.cl,T.f_upcoming,(by show 3<1000; decide),?_⟩
   exact q _ rfl dp _ (((Same.frm S06).trans F7 (.inl rfl)).trans frm_bk (.inl rfl)) (.inl rfl) (bk_self hB7 (maxI B.up (n+1)) h47 h57)
  rw[if_neg k5]at q qe
  rw[dstr_ne' k5]
  refine iteF ?_
  refine⟨_,rfl,_,rfl,bk,_,dx,_,_,rfl,h1,T.cl,T.f_entries,rfl,de,_,rfl,DGet.k (k:=Sum.inl n) h2,_,rfl,?_⟩
  have hv:=h3.val (n:=n)
  cases he:lookE B.es n with
  | none=>
   rw[he]at hv q
   have hv:valV kvs (Sum.inl n)=none:=hv
   rw[hv]
   refine iteF ?_
   exact q B rfl dp H (Frm.refl _ _ _ _) (.inl rfl) hB
  | some e=>
   rw[he]at hv q
   obtain⟨v,hv1,_⟩:=hv
   rw[hv1]
   refine iteT ?_
   refine⟨_,rfl,bk,dx,_,rfl,h1,rfl,_,rfl,_,rfl,bk,de,dp,B,k,n,e,rfl,hB,he,by omega,fun H' f' h'=>?_⟩
   refine q _ ?_ dp H' f' (.inl rfl) h'
   dsimp only
   split
   ·rfl
   ·split <;> rfl
end
abbrev Rw:=Str × Int × List Int
def rowR (r:Rw):PyData:=rowT r.1 r.2.1 r.2.2
def foldB (seg:Int):Bk->List Rw->Option Bk
 | B,[]=>some B
 | B,r::rs=>match enterF B r.1 r.2.1 r.2.2 seg with
  | none=>none
  | some B'=>foldB seg B' rs
theorem puts_size (seg:Int):∀ {ps:List (Int × List Int)} {B B':Bk},puts seg B ps=some B'->B'.es.length<=B.es.length+ps.length
 | [],B,B',h=>by
  cases (Option.some.inj h:B=B')
  exact Nat.le_refl _
 | p::ps,B,B',h=>by
  unfold puts at h
  cases e:put1 B p.1 p.2 seg with
  | none=>rw[e]at h; cases h
  | some B1=>
   rw[e]at h
   have h1:=puts_size seg h
   unfold put1 at e
   split at e
   ·cases e
   ·cases (Option.some.inj e)
    have:=putE_len B.es p.1 (p.2,0,seg)
    rw[List.length_cons]
    have h1:B'.es.length<=(putE B.es p.1 (p.2,0,seg)).length+ps.length:=h1
    omega
theorem enter_size {B B':Bk} {k:Str} {n seg:Int} {body:List Int} (h:enterF B k n body seg=some B'):B'.es.length+B'.parts.length<=B.es.length+B.parts.length+1:=by
 unfold enterF at h
 split at h
 ·cases (Option.some.inj h)
  show B.es.length+(B.parts++[(n,body)]).length<=_
  rw[List.length_append]
  exact Nat.le_refl _
 ·split at h
  ·unfold dealF at h
   split at h
   ·have h1:=puts_size seg h
    have h2:=puts_parts seg h
    rw[h2]
    have h1:B'.es.length<=B.es.length+B.parts.length:=h1
    show B'.es.length+0<=_
    omega
   ·cases h
  ·split at h
   ·cases h
   ·split at h
    ·unfold put1 at h
     split at h
     ·cases h
     ·cases (Option.some.inj h)
      have:=putE_len B.es n (body,0,seg)
      show (putE B.es n (body,0,seg)).length+B.parts.length<=_
      omega
    ·split at h
     ·cases (Option.some.inj h)
      exact Nat.le_succ _
     ·split at h
      ·cases (Option.some.inj h)
       have:=putE_len B.es n (body.drop 1,body.getD 0 0,seg)
       show (putE B.es n (body.drop 1,body.getD 0 0,seg)).length+B.parts.length<=_
       omega
      ·split at h
       ·cases (Option.some.inj h)
        exact Nat.le_succ _
       ·rename_i e _
        split at h
        ·cases (Option.some.inj h)
         have:=putE_len B.es n (e.1,e.2.1+1,e.2.2)
         show (putE B.es n (e.1,e.2.1+1,e.2.2)).length+B.parts.length<=_
         omega
        ·split at h
         ·cases (Option.some.inj h)
          have:=putE_len B.es n (e.1,0,e.2.2)
          show (putE B.es n (e.1,0,e.2.2)).length+B.parts.length<=_
          omega
         ·cases (Option.some.inj h)
          have:(dropE B.es n).length<=B.es.length:=List.length_filter_le _ _
          show (dropE B.es n).length+B.parts.length<=_
          omega
theorem rows_of {ds:List PyData} (h:ds.all isRowD=true):∃ rs:List Rw,ds=rs.map rowR/\∀ r∈rs,isRowD (rowR r)=true:=by
 induction ds with
 | nil=>exact⟨[],rfl,fun r hr=>absurd hr (by simp)⟩
 | cons d ds ih=>
  rw[List.all_cons,Bool.and_eq_true]at h
  obtain⟨rs,e,hr⟩:=ih h.2
  have h1:=h.1
  have:∃ r:Rw,d=rowR r:=by
   match d,h1 with
   | .tuple [.str k,.int n,.tuple bs],h1=>
    simp only[isRowD,Bool.and_eq_true]at h1
    have hb:bs.all (isNum 0 255)=true:=h1.2.2.1
    refine⟨(k,n,intsOf (.tuple bs)),?_⟩
    show PyData.tuple [.str k,.int n,.tuple bs] = .tuple [.str k,.int n,.tuple ((intsOf (.tuple bs)).map .int)]
    congr 4
    have:∀ l:List PyData,l.all (isNum 0 255)=true->l=(intsOf (.tuple l)).map .int:=by
     intro l hl
     induction l with
     | nil=>rfl
     | cons x l ih=>
      rw[List.all_cons,Bool.and_eq_true]at hl
      have:=ih hl.2
      cases x with
      | int i=>
       show PyData.int i::l=PyData.int i::(intsOf (.tuple l)).map .int
       rw[<- this]
      | _=>exact absurd hl.1 (by simp [isNum])
    exact congrArg PyData.tuple (this bs hb)
   | .tuple [.str k,.int n,.list _],h1=>simp [isRowD,isByt]at h1
   | .tuple [.str k,.int n,.int _],h1=>simp [isRowD,isByt]at h1
   | .tuple [.str k,.int n,.str _],h1=>simp [isRowD,isByt]at h1
   | .tuple [.str k,.int n,.bool _],h1=>simp [isRowD,isByt]at h1
   | .tuple [.str k,.int n,.none],h1=>simp [isRowD,isByt]at h1
   | .tuple [.str k,.int n,.dict _],h1=>simp [isRowD,isByt]at h1
   | .tuple [.str k,.str _,b],h1=>simp [isRowD,isNum]at h1
   | .tuple [.str k,.bool _,b],h1=>simp [isRowD,isNum]at h1
   | .tuple [.str k,.none,b],h1=>simp [isRowD,isNum]at h1
   | .tuple [.str k,.list _,b],h1=>simp [isRowD,isNum]at h1
   | .tuple [.str k,.tuple _,b],h1=>simp [isRowD,isNum]at h1
   | .tuple [.str k,.dict _,b],h1=>simp [isRowD,isNum]at h1
  obtain⟨r,e1⟩:=this
  refine⟨r::rs,by rw[List.map_cons,<- e1,<- e],fun x hx=>?_⟩
  rcases List.mem_cons.mp hx with rfl | hx
  ·rw[<- e1]
   exact h1
  ·exact hr x hx
section
variable {P:Program} {w:World} {K:PySem.W.Frag} {mg:Str->Option Value} {base:Heap} {a_KINDS C_BadRow C_Broken C_Book:Addr}
end
def But (pl:Addr) (H H':Hp):Prop:=∀ b o,H b=some o->b≠pl->H' b=some o
theorem row_form {H:Hp} {r:Rw} {v:V} (h:Den H (rowR r) v):∃ t b,v = .ref t/\H t=some (.tup [.str r.1,.int r.2.1,.ref b])/\H b=some (.tup (r.2.2.map V.int)):=by
 unfold rowR rowT at h
 simp only[Den,Dens]at h
 obtain⟨t,_,rfl,gt,_,_,rfl,rfl,_,_,rfl,rfl,_,_,rfl,⟨b,ys,rfl,gb,hys⟩,rfl⟩:=h
 have:=dens_ints.mp hys
 subst this
 exact⟨t,b,rfl,gt,gb⟩
end Qh
end
section
namespace Qh
open PySem L2
structure TxtN (K:PySem.W.Frag) (mg:Str->Option Value):Prop where
 n_len:mg "len" = none
 n_isinstance:mg "isinstance" = none
 n_all:mg "all" = none
 n_sum:mg "sum" = none
 n_tuple:mg "tuple" = none
 n_int:mg "int" = none
 n_bool:mg "bool" = none
 n_str:mg "str" = none
 n_range:mg "range" = none
 n_enumerate:mg "enumerate" = none
 n_list:mg "list" = none
 n_sorted:mg "sorted" = none
 c_HIGHEST_BYTE:∃ t,mg "HIGHEST_BYTE" = some (.int 255 t)
section
variable {P:Program} {w:World} {K:PySem.W.Frag} {mg:Str->Option Value} {base:Heap} 
end
abbrev s_is_word:Stmt:=top 5
abbrev s_check_name:Stmt:=top 58
abbrev s_check_steps:Stmt:=top 59
def signs36:Str:="abcdefghijklmnopqrstuvwxyz0123456789"
def inS (signs:Str) (c:Nat):Bool:=!(Builtin.Str.occurrences signs ⟨#[c]⟩ 0 signs.length 1).isEmpty
def ascii (x:Str):Bool:=x.cps.all fun c=>decide (c<128)
def wordD (signs:Str) (l:Int):PyData->Bool
 | .str x=>(decide (1<=(x.length:Int)) && decide ((x.length:Int)<=l)) && x.cps.toList.all (inS signs)
 | _=>false
def sp_is_word:Sp:=fun vs H Q _=>∃ (v:V) (d:PyData) (signs:Str) (l:Int),vs=[v,.str signs,.int l]/\Den H d v/\(∀ x,d = .str x->x.length<=1000/\ascii x=true)/\∀ H',Same H H'->Q (.bl (wordD signs l d)) H'
structure TxtD (K:PySem.W.Frag) (mg:Str->Option Value) (C_BadName C_Missing C_There C_Stopped C_BadRow C_BadNumber C_Disk:Addr):Prop extends TxtN K mg where
 c_NAME_SIGNS:∃ t,mg "NAME_SIGNS" = some (.str signs36 t)
 c_LONGEST_NAME:∃ t,mg "LONGEST_NAME" = some (.int 8 t)
 c_MOST_STEPS:∃ t,mg "MOST_STEPS" = some (.int 100000 t)
 x_BadName:excIn K C_BadName=true
 m_BadName:mg "BadName" = some (.ref C_BadName)
 x_Missing:excIn K C_Missing=true
 m_Missing:mg "Missing" = some (.ref C_Missing)
 x_There:excIn K C_There=true
 m_There:mg "There" = some (.ref C_There)
 x_Stopped:excIn K C_Stopped=true
 m_Stopped:mg "Stopped" = some (.ref C_Stopped)
 x_BadRow:excIn K C_BadRow=true
 m_BadRow:mg "BadRow" = some (.ref C_BadRow)
 x_BadNumber:excIn K C_BadNumber=true
 m_BadNumber:mg "BadNumber" = some (.ref C_BadNumber)
 cl:Cls K C_Disk
 f_files:NoAttr K C_Disk "files"
 f_steps_done:NoAttr K C_Disk "steps_done"
 f_steps_ahead:NoAttr K C_Disk "steps_ahead"
def sp_check_name (C_BadName:Addr):Sp:=fun vs H Q E=>∃ (v:V) (d:PyData),vs=[v]/\Den H d v/\(∀ x,d = .str x->x.length<=1000/\ascii x=true)/\(wordD signs36 8 d=true->∀ H',Same H H'->Q .non H')/\(wordD signs36 8 d=false->∀ H',Same H H'->E (.ref C_BadName) none H')
def stepsOk:PyData->Bool
 | .none=>true
 | d=>isNum 0 100000 d
def sp_check_steps (C_BadNumber:Addr):Sp:=fun vs H Q E=>∃ (v:V) (d:PyData),vs=[v]/\Den H d v/\(stepsOk d=true->Q .non H)/\(stepsOk d=false->E (.ref C_BadNumber) none H)
section
variable {P:Program} {w:World} {K:PySem.W.Frag} {mg:Str->Option Value} {base:Heap} {C_BadName C_Missing C_There C_Stopped C_BadRow C_BadNumber C_Disk:Addr}
theorem sc_is_word:FnScope ["thing","signs","longest"] ["thing","signs","longest"] (defScope s_is_word):=‹0›
set_option maxHeartbeats 1000000 in
theorem ok_is_word {f:Addr} {fd:FuncData} (F:Fun K "is_word" "is_word" s_is_word f fd) (T:TxtN K mg):‹9› 1 f fd ["thing","signs","longest"] sp_is_word:=by
 refine F.okX sc_is_word (fun vs H Q E h=>?_) (fun cdv A outer s H vs Q E hr h=>?_)
 ·obtain⟨v,d,signs,l,rfl,_⟩:=h
  rfl
 ·obtain⟨v,d,signs,l,rfl,hd,hz,q⟩:=h
  refine⟨_,@pss_cons _ _ _ _ _ (@ps_if _ _ _ _ _ _ _ _ (@PW.pt _ _ _ (@pw_or _ _ _ _ _ _ _ (@pt_not _ _ _ _ (@pt_val _ _ _ (@pe_callB _ _ _ _ _ _ _ _ _ (call_isiK K) (by rfl) T.n_isinstance bt_isinstance (@pa_Name _ _ _ _ _ _ ‹20› (@pa_Name _ _ _ _ _ _ (@pe_bltn _ _ (.ty "str") _ _ (by rfl) T.n_str bt_str (by rfl) ⋯ ⋯) (@pa_nil _))) ⋯ ⋯ ⋯ ⋯) ⋯)) (@pw_or1 _ _ _ _ (@pt_not _ _ _ _ (@pt_chain _ _ _ _ _ _ _ _ _ _ _ _ op_le op_le ‹24› (@pe_callB _ _ _ _ _ _ _ _ _ call_len_str (by rfl) T.n_len bt_len ‹37› ⋯ ⋯ ⋯ ⋯) ‹25› ⋯))))) ‹27› (@pss_nil _)) (@pss_one _ _ _ (@ps_ret _ _ _ _ (@pe_callB _ _ _ _ _ _ _ _ _ (call_allK K) (by rfl) T.n_all bt_all (@pa_ListComp _ _ _ _ _ _ _ _ (@pe_comp _ _ _ _ _ _ _ _ _ _ _ ["sign"] [("signs",1)] (by rfl) (@pi_str _ _ _ _ ‹20›) (fun C s2 H2 ex=>(@pg_name _ _ (0) _ (show List.Nodup (["sign","signs"]:List Str) by decide +kernel) (by rfl) (Or.inl (by rfl)) ⋯)) ‹31› (fun C s2 H2 ex=>(@pe_cmpR _ _ _ _ _ _ _ _ op_in_str ‹20› ‹21› (by rfl))) ⋯ ⋯ ⋯ ⋯) (@pa_nil _)) ⋯ ⋯ ⋯ ⋯))),?_⟩
  refine⟨_,rfl,_,_,_,_,rfl,hd.ty,kit_str d,_,rfl,?_⟩
  cases d with
  | none=>exact iteT (iteT (q H (Same.refl H)))
  | bool x=>exact iteT (iteT (q H (Same.refl H)))
  | int x=>exact iteT (iteT (q H (Same.refl H)))
  | tuple x=>exact iteT (iteT (q H (Same.refl H)))
  | list x=>exact iteT (iteT (q H (Same.refl H)))
  | dict x=>exact iteT (iteT (q H (Same.refl H)))
  | str x=>
  refine iteF ?_
  obtain⟨z1,z2⟩:=hz x rfl
  have e:v = .str x:=by simpa only[Den] using hd
  subst e
  have zl:x.length<=sizeLine:=Nat.le_trans z1 (by decide)
  refine⟨_,rfl,x,rfl,zl,_,_,rfl,rfl,_,rfl,?_⟩
  simp only[wordD]at q
  by_cases h1:1<=(x.length:Int)
  case neg=>
   rw[if_neg (by rw[decide_eq_true_eq]; exact h1)]
   rw[decide_eq_false h1,Bool.false_and,Bool.false_and]at q
   exact⟨_,rfl,iteT (q H (Same.refl H))⟩
  rw[if_pos (decide_eq_true h1)]
  rw[decide_eq_true h1,Bool.true_and]at q
  refine⟨_,rfl,_,_,rfl,rfl,_,rfl,?_⟩
  show if (!decide ((x.length:Int)<=l))=true then _ else _
  by_cases h2:(x.length:Int)<=l
  case neg=>
   rw[decide_eq_false h2]at q ⊢
   exact iteT (q H (Same.refl H))
  rw[decide_eq_true h2]at q ⊢
  rw[Bool.true_and]at q
  refine iteF ?_
  refine go_next rfl ?_
  refine⟨_,rfl,x,rfl,z2,?_⟩
  refine comp_src (src_str (H:=H) x) zl (fun i y _=>∃ c,x.cps[i]? = some c/\y = .bl (inS signs c)) (fun _ _ _ _ _ h=>h) (fun σ=>∃ z,σ = [z,some (.str signs)]) ?z0 ?_ ?_
  case z0=>exact⟨none,rfl⟩
  ·intro i y σc H3 hi hσ s3 hx Q' hQ'
   obtain⟨z,rfl⟩:=hσ
   obtain⟨c,hc,rfl⟩:=hx
   refine⟨_,rfl,_,rfl,_,_,rfl,rfl,?_⟩
   exact hQ' _ _ _ ⟨_,rfl⟩ (Same.refl _) ⟨c,hc,rfl⟩
  intro D ys H' hD s' hD' hlen hR
  have ey:ys=(x.cps.toList.map (inS signs)).map V.bl:=by
   apply List.ext_getElem?
   intro i
   cases e:ys[i]? with
   | none=>
    have:ys.length<=i:=List.getElem?_eq_none_iff.mp e
    rw[List.getElem?_eq_none (by rw[List.length_map,List.length_map,Array.length_toList]; omega)]
   | some y=>
    obtain⟨c,h1,h2⟩:=hR i y e
    rw[List.getElem?_map,List.getElem?_map,Array.getElem?_toList,h1,h2]
    rfl
  refine⟨D,x.cps.toList.map (inS signs),rfl,SqL.of (by rw[hD',ey]),?_⟩
  rw[List.all_map]
  exact q H' s'
theorem sc_check_name:FnScope ["name"] ["name"] (defScope s_check_name):=‹0›
theorem ok_check_name {f:Addr} {fd:FuncData} (F:Fun K "check_name" "check_name" s_check_name f fd) (T:‹1›) (c_is_word:‹10› "is_word" 1 ["thing","signs","longest"] sp_is_word):‹9› 2 f fd ["name"] (sp_check_name C_BadName):=by
 obtain⟨_,hc_NAME_SIGNS⟩:=T.c_NAME_SIGNS
 obtain⟨_,hc_LONGEST_NAME⟩:=T.c_LONGEST_NAME
 refine F.okX sc_check_name (fun vs H Q E h=>?_) (fun cdv A outer s H vs Q E hr h=>?_)
 ·obtain⟨v,d,rfl,_⟩:=h
  rfl
 ·obtain⟨v,d,rfl,hd,hz,q,qe⟩:=h
  refine⟨_,@pss_one _ _ _ (@ps_if _ _ _ _ _ _ _ _ (@pt_not _ _ _ _ (@pt_val _ _ _ (@pe_fn _ _ _ _ _ _ _ _ _ _ _ c_is_word ‹15› passN (@pa_Name _ _ _ _ _ _ ‹20› (@pa_Name _ _ _ _ _ _ (@pe_glob _ _ (.str "abcdefghijklmnopqrstuvwxyz0123456789") _ _ (by rfl) hc_NAME_SIGNS ⟨_,rfl⟩ ⋯) (@pa_Name _ _ _ _ _ _ (@pe_glob _ _ (.int 8) _ _ (by rfl) hc_LONGEST_NAME ⟨_,rfl⟩ ⋯) (@pa_nil _)))) ⋯ ⋯ ⋯ ⋯) ⋯)) (@pss_one _ _ _ (@ps_raise _ _ _ _ _ _ _ _ _ _ raisesB (by rfl) T.x_BadName (by rfl) T.m_BadName ‹23› ⋯ ⋯ ⋯)) (@pss_nil _)),?_⟩
  refine⟨_,rfl,v,d,signs36,8,rfl,hd,hz,fun H1 S1=>⟨_,rfl,?_⟩⟩
  cases hb:wordD signs36 8 d with
  | false=>exact iteT ⟨(by show 1<=sizeLine; decide),qe hb H1 S1⟩
  | true=>exact iteF (q hb H1 S1)
theorem sc_check_steps:FnScope ["steps"] ["steps"] (defScope s_check_steps):=‹0›
theorem ok_check_steps {f:Addr} {fd:FuncData} (F:Fun K "check_steps" "check_steps" s_check_steps f fd) (T:‹1›) (c_is_number:‹5›):‹9› 2 f fd ["steps"] (sp_check_steps C_BadNumber):=by
 obtain⟨_,hc_MOST_STEPS⟩:=T.c_MOST_STEPS
 refine F.okX sc_check_steps (fun vs H Q E h=>?_) (fun cdv A outer s H vs Q E hr h=>?_)
 ·obtain⟨v,d,rfl,_⟩:=h
  rfl
 ·obtain⟨v,d,rfl,hd,q,qe⟩:=h
  refine⟨_,@pss_one _ _ _ (@ps_if _ _ _ _ _ _ _ _ (@PW.pt _ _ _ (@pw_and _ _ _ _ _ _ _ (@pt_cmpR _ _ _ _ _ _ _ _ op_notN ‹20› (@pe_non _ _ _) (nomark _)) (@pw_and1 _ _ _ _ (@pt_not _ _ _ _ (@pt_val _ _ _ (@pe_fn _ _ _ _ _ _ _ _ _ _ _ c_is_number ‹15› passN (@pa_Name _ _ _ _ _ _ ‹20› (@pa_Constant _ _ _ _ _ _ _ ‹24› (@pa_Name _ _ _ _ _ _ (@pe_glob _ _ (.int 100000) _ _ (by rfl) hc_MOST_STEPS ⟨_,rfl⟩ ⋯) (@pa_nil _)))) ⋯ ⋯ ⋯ ⋯) ⋯))))) (@pss_one _ _ _ (@ps_raise _ _ _ _ _ _ _ _ _ _ raisesB (by rfl) T.x_BadNumber (by rfl) T.m_BadNumber ‹23› ⋯ ⋯ ⋯)) (@pss_nil _)),?_⟩
  by_cases hv:v = .non
  ·subst hv
   have:stepsOk d=true:=by
    cases d with
    | none=>rfl
    | bool b=>simp only[Den]at hd; cases hd
    | int b=>simp only[Den]at hd; cases hd
    | str b=>simp only[Den]at hd; cases hd
    | tuple b=>simp only[Den]at hd; obtain⟨_,_,e,_⟩:=hd; cases e
    | list b=>simp only[Den]at hd; obtain⟨_,_,e,_⟩:=hd; cases e
    | dict b=>simp only[Den]at hd
   exact⟨_,rfl,rfl,_,rfl,iteF (iteF (q this))⟩
  ·have e:stepsOk d=isNum 0 100000 d:=by
    cases d with
    | none=>simp only[Den]at hd; exact absurd hd hv
    | _=>rfl
   rw[e]at q qe
   refine⟨_,rfl,rfl,_,rfl,?_⟩
   rw[decide_eq_false hv]
   refine iteT ⟨_,rfl,v,d,0,100000,rfl,hd,_,rfl,?_⟩
   cases hb:isNum 0 100000 d with
   | false=>exact iteT ⟨(by show 1<=sizeLine; decide),qe hb⟩
   | true=>exact iteF (q hb)
end
structure Dk where
 fs:List (Str × List Int)
 done:Int
 left:Option Int
def leftV:Option Int->V
 | none=>.non
 | some n=>.int n
def lookF (fs:List (Str × List Int)) (n:Str):Option (List Int):=(fs.find? fun p=>decide (p.1=n)).map (·.2)
def dropA (fs:List (Str × List Int)) (n:Str):List (Str × List Int):=fs.filter fun p=>decide (p.1≠n)
def fileAt (H:Hp) (v:V) (bs:List Int):Prop:=∃ l,v = .ref l/\H l=some (.lst (bs.map V.int))
def FsR (H:Hp):List (Str × List Int)->List (Key × V)->Prop
 | [],[]=>True
 | p::fs,q::kvs=>q.1=Sum.inr p.1/\fileAt H q.2 p.2/\FsR H fs kvs
 | _,_=>False
def dkF (df:Addr) (done:Int) (left:Option Int):List (Str × V):=[("files",.ref df),("steps_done",.int done),("steps_ahead",leftV left)]
structure DiskAt (C:Addr) (H:Hp) (dk df:Addr) (kvs:List (Key × V)) (D:Dk):Prop where
 self:∃ dx,H dk=some (.ins C dx (dkF df D.done D.left))
 files:H df=some (.dK kvs)
 rel:FsR H D.fs kvs
 nd:(kvs.map (·.2)).Nodup
 kn:(D.fs.map (·.1)).Nodup
def own (dk df:Addr) (kvs:List (Key × V)) (b:Addr):Prop:=b=dk\/b=df\/V.ref b∈kvs.map (·.2)
def FrmD (dk df:Addr) (kvs:List (Key × V)) (H H':Hp):Prop:=∀ b o,H b=some o->¬ own dk df kvs b->H' b=some o
def Grow (dk df:Addr) (kvs kvs':List (Key × V)) (H:Hp):Prop:=∀ b,own dk df kvs' b->own dk df kvs b\/H b=none
theorem FsR.same {H H':Hp}:∀ {fs:List (Str × List Int)} {kvs:List (Key × V)},(∀ b o,H b=some o->V.ref b∈kvs.map (·.2)->H' b=some o)->FsR H fs kvs->FsR H' fs kvs
 | [],[],_,_=>trivial
 | p::fs,q::kvs,s,h=>by
  obtain⟨h1,⟨l,e,g⟩,h3⟩:=h
  exact⟨h1,⟨l,e,s l _ g (by rw[List.map_cons,e]; exact List.mem_cons_self)⟩,FsR.same (fun b o e m=>s b o e (List.mem_cons_of_mem _ m)) h3⟩
 | [],_::_,_,h=>h.elim
 | _::_,[],_,h=>h.elim
theorem FsR.len {H:Hp}:∀ {fs:List (Str × List Int)} {kvs:List (Key × V)},FsR H fs kvs->kvs.length=fs.length
 | [],[],_=>rfl
 | p::fs,q::kvs,h=>by rw[List.length_cons,List.length_cons,FsR.len h.2.2]
 | [],_::_,h=>h.elim
 | _::_,[],h=>h.elim
theorem FsR.keys {H:Hp}:∀ {fs:List (Str × List Int)} {kvs:List (Key × V)},FsR H fs kvs->kvs.map (·.1)=(fs.map (·.1)).map Sum.inr
 | [],[],_=>rfl
 | p::fs,q::kvs,h=>by rw[List.map_cons,List.map_cons,List.map_cons,h.1,FsR.keys h.2.2]
 | [],_::_,h=>h.elim
 | _::_,[],h=>h.elim
theorem inr_eq {a b:Str}:((Sum.inr a:Key)=Sum.inr b) ↔ a=b:=⟨Sum.inr.inj,fun h=>by rw[h]⟩
theorem FsR.val {H:Hp} {n:Str}:∀ {fs:List (Str × List Int)} {kvs:List (Key × V)},FsR H fs kvs->(match lookF fs n with | none=>valV kvs (Sum.inr n)=none | some e=>∃ v,valV kvs (Sum.inr n)=some v/\fileAt H v e)
 | [],[],_=>rfl
 | p::fs,q::kvs,h=>by
  obtain⟨h1,h2,h3⟩:=h
  have ih:=FsR.val (n:=n) h3
  by_cases e:p.1=n
  ·have:lookF (p::fs) n=some p.2:=by simp [lookF,e]
   rw[this]
   exact⟨q.2,valV_pos (by rw[h1,e]),h2⟩
  ·have e1:lookF (p::fs) n=lookF fs n:=by simp [lookF,e]
   have e2:valV (q::kvs) (Sum.inr n)=valV kvs (Sum.inr n):=valV_neg (by rw[h1,inr_eq]; exact e)
   rw[e1,e2]
   exact ih
 | [],_::_,h=>h.elim
 | _::_,[],h=>h.elim
theorem own_self {C dk df:Addr} {H:Hp} {kvs:List (Key × V)} {D:Dk} (h:DiskAt C H dk df kvs D):dk≠df/\V.ref dk ∉ kvs.map (·.2)/\V.ref df ∉ kvs.map (·.2):=by
 have key:∀ {fs:List (Str × List Int)} {kvs:List (Key × V)},FsR H fs kvs->∀ b,V.ref b∈kvs.map (·.2)->∃ xs,H b=some (.lst xs):=by
  intro fs
  induction fs with
  | nil=>
   intro kvs hr b hb
   cases kvs with
   | nil=>simp at hb
   | cons _ _=>exact hr.elim
  | cons p fs ih=>
   intro kvs hr b hb
   cases kvs with
   | nil=>exact hr.elim
   | cons q kvs=>
    obtain⟨_,⟨l,e,g⟩,h3⟩:=hr
    rw[List.map_cons,List.mem_cons]at hb
    rcases hb with hb | hb
    ·rw[e]at hb
     cases hb
     exact⟨_,g⟩
    ·exact ih h3 b hb
 obtain⟨dx,h1⟩:=h.self
 refine⟨?_,fun hb=>?_,fun hb=>?_⟩
 ·rintro rfl
  rw[h.files]at h1
  cases h1
 ·obtain⟨xs,e⟩:=key h.rel _ hb
  rw[h1]at e
  cases e
 ·obtain⟨xs,e⟩:=key h.rel _ hb
  rw[h.files]at e
  cases e
theorem disk_self {C dk df dx:Addr} {H:Hp} {kvs:List (Key × V)} {D:Dk} (h:DiskAt C H dk df kvs D) (done:Int) (left:Option Int):DiskAt C (upd H dk (.ins C dx (dkF df done left))) dk df kvs ⟨D.fs,done,left⟩:=by
 obtain⟨n1,n2,n3⟩:=own_self h
 refine⟨⟨dx,upd_same⟩,by rw[upd_ne (Ne.symm n1)]; exact h.files,h.rel.same fun b o e m=>?_,h.nd,h.kn⟩
 rw[upd_ne (fun z=>by rw[z]at m; exact n2 m)]
 exact e
theorem DiskAt.same {C dk df:Addr} {H H':Hp} {kvs:List (Key × V)} {D:Dk} (h:DiskAt C H dk df kvs D) (s:Same H H'):DiskAt C H' dk df kvs D:=by
 obtain⟨dx,h1⟩:=h.self
 exact⟨⟨dx,s _ _ h1⟩,s _ _ h.files,h.rel.same fun b o e _=>s b o e,h.nd,h.kn⟩
def stepF (D:Dk):Option Dk:=match D.left with
 | none=>some ⟨D.fs,D.done+1,none⟩
 | some n=>if n=0 then none else some ⟨D.fs,D.done+1,some (n - 1)⟩
abbrev s_count_step:Stmt:=inClass (top 60) 12
def sp_count_step (C C_Stopped:Addr):Sp:=fun vs H Q E=>∃ (dk df:Addr) (kvs:List (Key × V)) (D:Dk),vs=[.ref dk]/\DiskAt C H dk df kvs D/\(∀ D',stepF D=some D'->∀ H',(∀ b o,H b=some o->b≠dk->H' b=some o)->DiskAt C H' dk df kvs D'->Q .non H')/\(stepF D=none->E (.ref C_Stopped) none H)
section
variable {P:Program} {w:World} {K:PySem.W.Frag} {mg:Str->Option Value} {base:Heap} {C_BadName C_Missing C_There C_Stopped C_BadRow C_BadNumber C_Disk:Addr}
theorem sc_Disk_count_step:FnScope ["self"] ["self"] (defScope s_count_step):=‹0›
theorem ok_count_step {f:Addr} {fd:FuncData} (F:Fun K "count_step" "Disk.count_step" s_count_step f fd) (T:‹1›):‹9› 1 f fd ["self"] (sp_count_step C_Disk C_Stopped):=by
 refine F.okX sc_Disk_count_step (fun vs H Q E h=>?_) (fun cdv A outer s H vs Q E hr h=>?_)
 ·obtain⟨dk,df,kvs,D,rfl,_⟩:=h
  rfl
 ·obtain⟨dk,df,kvs,D,rfl,hD,q,qe⟩:=h
  refine⟨_,@pss_cons _ _ _ _ _ (@ps_if _ _ _ _ _ _ _ _ (@pt_cmpR _ _ _ _ _ _ _ _ op_eq ‹32› ‹24› (nomark _)) (@pss_one _ _ _ (@ps_raise _ _ _ _ _ _ _ _ _ _ raisesB (by rfl) T.x_Stopped (by rfl) T.m_Stopped ‹23› ⋯ ⋯ ⋯)) (@pss_nil _)) (@pss_cons _ _ _ _ _ (@ps_if _ _ _ _ _ _ _ _ (@pt_cmpR _ _ _ _ _ _ _ _ op_notN ‹32› (@pe_non _ _ _) (nomark _)) (@pss_one _ _ _ (@ps_fldaug _ _ _ _ _ _ _ _ _ _ ‹20› ‹24› in_sub)) (@pss_nil _)) (@pss_one _ _ _ (@ps_fldaug _ _ _ _ _ _ _ _ _ _ ‹20› ‹24› in_add))),?_⟩
  obtain⟨dx,h1⟩:=hD.self
  obtain⟨fs,done,left⟩:=D
  unfold stepF at q qe
  cases left with
  | none=>
   refine⟨_,rfl,dk,_,dx,_,_,rfl,h1,T.cl,T.f_steps_ahead,rfl,rfl,_,rfl,iteF ?_⟩
   refine go_next rfl ?_
   refine⟨_,rfl,dk,_,dx,_,_,rfl,h1,T.cl,T.f_steps_ahead,rfl,rfl,_,rfl,iteF ?_⟩
   refine go_next rfl ?_
   refine⟨_,rfl,dk,_,dx,_,_,rfl,h1,T.cl,T.f_steps_done,rfl,_,_,rfl,rfl,dx,_,h1,(by show 3<1000; decide),?_⟩
   exact q _ rfl _ (fun b o e nb=>by rw[upd_ne nb]; exact e) (disk_self hD (done+1) none)
  | some n=>
   refine⟨_,rfl,dk,_,dx,_,_,rfl,h1,T.cl,T.f_steps_ahead,rfl,rfl,_,rfl,?_⟩
   by_cases hn:n=0
   ·subst hn
    refine iteT ?_
    exact⟨(by show 1<=sizeLine; decide),qe rfl⟩
   ·have e0:decide (V.int n=V.int 0)=false:=decide_eq_false (fun z=>hn (V.int.inj z))
    show if decide (V.int n=V.int 0)=true then _ else _
    rw[e0]
    refine iteF ?_
    refine go_next rfl ?_
    refine⟨_,rfl,dk,_,dx,_,_,rfl,h1,T.cl,T.f_steps_ahead,rfl,rfl,_,rfl,iteT ?_⟩
    refine⟨_,rfl,dk,_,dx,_,_,rfl,h1,T.cl,T.f_steps_ahead,rfl,_,_,rfl,rfl,dx,_,h1,(by show 3<1000; decide),?_⟩
    have h2:=disk_self (dx:=dx) hD done (some (n - 1))
    have g2:upd H dk (.ins C_Disk dx (dkF df done (some (n - 1)))) dk=some (.ins C_Disk dx (dkF df done (some (n - 1)))):=upd_same
    refine⟨_,rfl,dk,_,dx,_,_,rfl,g2,T.cl,T.f_steps_done,rfl,_,_,rfl,rfl,dx,_,g2,(by show 3<1000; decide),?_⟩
    exact q _ (by dsimp only; rw[if_neg hn]) _ (fun b o e nb=>by rw[upd_ne nb,upd_ne nb]; exact e) (disk_self h2 (done+1) (some (n - 1)))
end
end Qh
end
section
namespace Qh
open PySem L2
abbrev s_dinit:Stmt:=inClass (top 60) 0
abbrev s_make:Stmt:=inClass (top 60) 2
abbrev s_drop:Stmt:=inClass (top 60) 5
abbrev s_names:Stmt:=inClass (top 60) 6
abbrev s_read:Stmt:=inClass (top 60) 7
abbrev s_size:Stmt:=inClass (top 60) 8
abbrev s_check_file:Stmt:=inClass (top 60) 11
def nameOk (d:PyData):Prop:=∀ x,d = .str x->x.length<=1000/\ascii x=true
theorem word_str {signs:Str} {l:Int} {d:PyData} (h:wordD signs l d=true):∃ x,d = .str x:=by
 cases d with
 | str x=>exact⟨x,rfl⟩
 | _=>cases h
def sp_check_file (C C_BadName C_Missing:Addr):Sp:=fun vs H Q E=>∃ (dk df:Addr) (kvs:List (Key × V)) (D:Dk) (v:V) (d:PyData),vs=[.ref dk,v]/\DiskAt C H dk df kvs D/\Den H d v/\nameOk d/\
 (wordD signs36 8 d=false->∀ H',Same H H'->E (.ref C_BadName) none H')/\(∀ n,d = .str n->wordD signs36 8 d=true->(lookF D.fs n=none->∀ H',Same H H'->E (.ref C_Missing) none H')/\(∀ bs,lookF D.fs n=some bs->∀ H',Same H H'->Q .non H'))
def sp_read (C C_BadName C_Missing:Addr):Sp:=fun vs H Q E=>∃ (dk df:Addr) (kvs:List (Key × V)) (D:Dk) (v:V) (d:PyData),vs=[.ref dk,v]/\DiskAt C H dk df kvs D/\Den H d v/\nameOk d/\
 (wordD signs36 8 d=false->∀ H',Same H H'->E (.ref C_BadName) none H')/\(∀ n,d = .str n->wordD signs36 8 d=true->(lookF D.fs n=none->∀ H',Same H H'->E (.ref C_Missing) none H')/\(∀ bs,lookF D.fs n=some bs->∀ p H',Same H H'->H' p=some (.tup (bs.map V.int))->Q (.ref p) H'))
def sp_size (C C_BadName C_Missing:Addr):Sp:=fun vs H Q E=>∃ (dk df:Addr) (kvs:List (Key × V)) (D:Dk) (v:V) (d:PyData),vs=[.ref dk,v]/\DiskAt C H dk df kvs D/\Den H d v/\nameOk d/\
 (wordD signs36 8 d=false->∀ H',Same H H'->E (.ref C_BadName) none H')/\(∀ n,d = .str n->wordD signs36 8 d=true->(lookF D.fs n=none->∀ H',Same H H'->E (.ref C_Missing) none H')/\(∀ bs,lookF D.fs n=some bs->∀ H',Same H H'->Q (.int (bs.length:Int)) H'))
def sp_names (C:Addr):Sp:=fun vs H Q _=>∃ (dk df:Addr) (kvs:List (Key × V)) (D:Dk),vs=[.ref dk]/\DiskAt C H dk df kvs D/\D.fs.length<64/\∀ p ms,List.Perm ms (D.fs.map (·.1))->PyProof.Rows.sortedS ms=true->∀ H',Same H H'->H' p=some (.lst (ms.map V.str))->H p=none->Q (.ref p) H'
def leftD:PyData->Option Int
 | .int n=>some n
 | _=>none
def sp_dinit (C C_BadNumber:Addr):Sp:=fun vs H Q E=>∃ (dk dx:Addr) (v:V) (d:PyData),vs=[.ref dk,v]/\H dk=some (.ins C dx [])/\Den H d v/\(stepsOk d=false->E (.ref C_BadNumber) none H)/\
 (stepsOk d=true->∀ df H',(∀ b o,H b=some o->b≠dk->H' b=some o)->H df=none->DiskAt C H' dk df [] ⟨[],0,leftD d⟩->Q .non H')
def sp_make (C C_BadName C_There C_Stopped:Addr):Sp:=fun vs H Q E=>∃ (dk df:Addr) (kvs:List (Key × V)) (D:Dk) (v:V) (d:PyData),vs=[.ref dk,v]/\DiskAt C H dk df kvs D/\Den H d v/\nameOk d/\D.fs.length<1000/\
 (wordD signs36 8 d=false->∀ H',Same H H'->E (.ref C_BadName) none H')/\(∀ n,d = .str n->wordD signs36 8 d=true->(∀ bs,lookF D.fs n=some bs->∀ H',Same H H'->E (.ref C_There) none H')/\
  (lookF D.fs n=none->(stepF D=none->∀ H',Same H H'->E (.ref C_Stopped) none H')/\(∀ D1,stepF D=some D1->∀ kvs' H',FrmD dk df kvs H H'->Grow dk df kvs kvs' H->DiskAt C H' dk df kvs' ⟨D1.fs++[(n,[])],D1.done,D1.left⟩->Q .non H')))
def sp_drop (C C_BadName C_Missing C_Stopped:Addr):Sp:=fun vs H Q E=>∃ (dk df:Addr) (kvs:List (Key × V)) (D:Dk) (v:V) (d:PyData),vs=[.ref dk,v]/\DiskAt C H dk df kvs D/\Den H d v/\nameOk d/\
 (wordD signs36 8 d=false->∀ H',Same H H'->E (.ref C_BadName) none H')/\(∀ n,d = .str n->wordD signs36 8 d=true->(lookF D.fs n=none->∀ H',Same H H'->E (.ref C_Missing) none H')/\
  (∀ bs,lookF D.fs n=some bs->(stepF D=none->∀ H',Same H H'->E (.ref C_Stopped) none H')/\(∀ D1,stepF D=some D1->∀ kvs' H',FrmD dk df kvs H H'->Grow dk df kvs kvs' H->DiskAt C H' dk df kvs' ⟨dropA D1.fs n,D1.done,D1.left⟩->Q .non H')))
theorem step_fs {D D1:Dk} (h:stepF D=some D1):D1.fs=D.fs:=by
 unfold stepF at h
 split at h
 ·cases (Option.some.inj h)
  rfl
 ·split at h
  ·cases h
  ·cases (Option.some.inj h)
   rfl
theorem FsR.snoc {H:Hp} {n:Str} {e:List Int} {v:V} (hv:fileAt H v e):∀ {fs:List (Str × List Int)} {kvs:List (Key × V)},FsR H fs kvs->FsR H (fs++[(n,e)]) (kvs++[(Sum.inr n,v)])
 | [],[],_=>⟨rfl,hv,trivial⟩
 | p::fs,q::kvs,h=>⟨h.1,h.2.1,FsR.snoc hv h.2.2⟩
 | [],_::_,h=>h.elim
 | _::_,[],h=>h.elim
theorem FsR.drop {H:Hp} {n:Str}:∀ {fs:List (Str × List Int)} {kvs:List (Key × V)},FsR H fs kvs->FsR H (dropA fs n) (dropK kvs (Sum.inr n))
 | [],[],_=>trivial
 | p::fs,q::kvs,h=>by
  obtain⟨h1,h2,h3⟩:=h
  have ih:=FsR.drop (n:=n) h3
  by_cases z:p.1=n
  ·have e1:dropA (p::fs) n=dropA fs n:=by simp [dropA,z]
   rw[e1,dropK_pos (by rw[h1,z])]
   exact ih
  ·have e1:dropA (p::fs) n=p::dropA fs n:=by simp [dropA,z]
   rw[e1,dropK_neg (by rw[h1,inr_eq]; exact z)]
   exact⟨h1,h2,ih⟩
 | [],_::_,h=>h.elim
 | _::_,[],h=>h.elim
theorem look_none {fs:List (Str × List Int)} {n:Str} (h:lookF fs n=none):n ∉ fs.map (·.1):=by
 intro hm
 rw[List.mem_map]at hm
 obtain⟨p,hp,rfl⟩:=hm
 unfold lookF at h
 rw[Option.map_eq_none_iff,List.find?_eq_none]at h
 exact h p hp (decide_eq_true rfl)
section
variable {P:Program} {w:World} {K:PySem.W.Frag} {mg:Str->Option Value} {base:Heap} {C_BadName C_Missing C_There C_Stopped C_BadRow C_BadNumber C_Disk:Addr}
theorem sc_Disk_check_file:FnScope ["self","name"] ["self","name"] (defScope s_check_file):=‹0›
theorem ok_check_file {f:Addr} {fd:FuncData} (F:Fun K "check_file" "Disk.check_file" s_check_file f fd) (T:‹1›) (c_check_name:‹10› "check_name" 2 ["name"] (sp_check_name C_BadName)):‹9› 3 f fd ["self","name"] (sp_check_file C_Disk C_BadName C_Missing):=by
 refine F.okX sc_Disk_check_file (fun vs H Q E h=>?_) (fun cdv A outer s H vs Q E hr h=>?_)
 ·obtain⟨dk,df,kvs,D,v,d,rfl,_⟩:=h
  rfl
 ·obtain⟨dk,df,kvs,D,v,d,rfl,hD,hd,hn,qb,q⟩:=h
  refine⟨_,@pss_cons _ _ _ _ _ (ps_expr (pe_fn c_check_name ‹15› passS (pa_Name (pv 1) pa_nil))) (@pss_one _ _ _ (@ps_if _ _ _ _ _ _ _ _ (@pt_cmp _ _ _ _ _ _ (@pc_dnotin _ _ _ _ _ (hu1 hr.units) ‹21› ‹32›) ⋯) (@pss_one _ _ _ (@ps_raise _ _ _ _ _ _ _ _ _ _ raisesB (by rfl) T.x_Missing (by rfl) T.m_Missing ‹23› ⋯ ⋯ ⋯)) (@pss_nil _))),?_⟩
  refine⟨_,rfl,v,d,rfl,hd,hn,fun hw H1 S1=>?_,qb⟩
  obtain⟨n,rfl⟩:=word_str hw
  obtain⟨qm,q⟩:=q n rfl hw
  have ev:v = .str n:=by simpa only[Den] using hd
  subst ev
  obtain⟨dx,h1⟩:=hD.self
  refine⟨_,rfl,_,rfl,dk,_,dx,_,_,rfl,S1 _ _ h1,T.cl,T.f_files,rfl,df,_,rfl,DGet.k (k:=Sum.inr n) (S1 _ _ hD.files),_,rfl,?_⟩
  have hv:=hD.rel.val (n:=n)
  cases he:lookF D.fs n with
  | none=>
   rw[he]at hv
   have hv:valV kvs (Sum.inr n)=none:=hv
   rw[hv]
   exact iteT ⟨(by show 1<=sizeLine; decide),qm he H1 S1⟩
  | some bs=>
   rw[he]at hv
   obtain⟨v,hv1,_⟩:=hv
   rw[hv1]
   exact iteF (q bs he H1 S1)
theorem sc_Disk_read:FnScope ["self","name"] ["self","name"] (defScope s_read):=‹0›
theorem ok_read {f:Addr} {fd:FuncData} (F:Fun K "read" "Disk.read" s_read f fd) (T:‹1›) (m_check_file:‹3›):‹9› 4 f fd ["self","name"] (sp_read C_Disk C_BadName C_Missing):=by
 refine F.okX sc_Disk_read (fun vs H Q E h=>?_) (fun cdv A outer s H vs Q E hr h=>?_)
 ·obtain⟨dk,df,kvs,D,v,d,rfl,_⟩:=h
  rfl
 ·obtain⟨dk,df,kvs,D,v,d,rfl,hD,hd,hn,qb,q⟩:=h
  refine⟨_,@pss_cons _ _ _ _ _ (ps_expr (pe_me m_check_file T.cl ‹15› passS (pv 0) (pa_Name (pv 1) pa_nil))) (@pss_one _ _ _ (@ps_ret _ _ _ _ (@pe_callTy _ _ _ _ _ _ _ _ _ (call_tupleK K) (by rfl) T.n_tuple bt_tuple (@pa_Subscript _ _ _ _ _ _ _ ‹51› (@pa_nil _)) ⋯ ⋯ ⋯ ⋯))),?_⟩
  obtain⟨dx,h1⟩:=hD.self
  refine⟨_,rfl,dk,dx,_,rfl,h1,rfl,_,rfl,dk,df,kvs,D,v,d,rfl,hD,hd,hn,qb,fun n en hw=>?_⟩
  obtain⟨qm,q2⟩:=q n en hw
  subst en
  have ev:v = .str n:=by simpa only[Den] using hd
  subst ev
  refine⟨qm,fun bs hbs H1 S1=>?_⟩
  have hv:=hD.rel.val (n:=n)
  rw[hbs]at hv
  obtain⟨v,hv1,l,rfl,gl⟩:=hv
  have dg:DGet H1 df (.str n) (some (.ref l)):=by
   have:=DGet.k (k:=Sum.inr n) (S1 _ _ hD.files)
   rw[hv1]at this
   exact this
  refine⟨_,rfl,dk,_,dx,_,_,rfl,S1 _ _ h1,T.cl,T.f_files,rfl,_,rfl,df,_,rfl,dg,l,_,rfl,.inl ⟨SqL.of (S1 _ _ gl),fun p hp=>?_⟩⟩
  exact q2 bs hbs p _ (S1.trans (same_upd hp)) upd_same
theorem sc_Disk_size:FnScope ["self","name"] ["self","name"] (defScope s_size):=‹0›
theorem ok_size {f:Addr} {fd:FuncData} (F:Fun K "size" "Disk.size" s_size f fd) (T:‹1›) (m_check_file:‹3›):‹9› 4 f fd ["self","name"] (sp_size C_Disk C_BadName C_Missing):=by
 refine F.okX sc_Disk_size (fun vs H Q E h=>?_) (fun cdv A outer s H vs Q E hr h=>?_)
 ·obtain⟨dk,df,kvs,D,v,d,rfl,_⟩:=h
  rfl
 ·obtain⟨dk,df,kvs,D,v,d,rfl,hD,hd,hn,qb,q⟩:=h
  refine⟨_,@pss_cons _ _ _ _ _ (ps_expr (pe_me m_check_file T.cl ‹15› passS (pv 0) (pa_Name (pv 1) pa_nil))) (@pss_one _ _ _ (@ps_ret _ _ _ _ (@pe_callB _ _ _ _ _ _ _ _ _ (call_lenK K) (by rfl) T.n_len bt_len (@pa_Subscript _ _ _ _ _ _ _ ‹51› (@pa_nil _)) ⋯ ⋯ ⋯ ⋯))),?_⟩
  obtain⟨dx,h1⟩:=hD.self
  refine⟨_,rfl,dk,dx,_,rfl,h1,rfl,_,rfl,dk,df,kvs,D,v,d,rfl,hD,hd,hn,qb,fun n en hw=>?_⟩
  obtain⟨qm,q2⟩:=q n en hw
  subst en
  have ev:v = .str n:=by simpa only[Den] using hd
  subst ev
  refine⟨qm,fun bs hbs H1 S1=>?_⟩
  have hv:=hD.rel.val (n:=n)
  rw[hbs]at hv
  obtain⟨v,hv1,l,rfl,gl⟩:=hv
  have dg:DGet H1 df (.str n) (some (.ref l)):=by
   have:=DGet.k (k:=Sum.inr n) (S1 _ _ hD.files)
   rw[hv1]at this
   exact this
  refine⟨_,rfl,dk,_,dx,_,_,rfl,S1 _ _ h1,T.cl,T.f_files,rfl,_,rfl,df,_,rfl,dg,l,_,rfl,.inl (SqL.of (S1 _ _ gl)),?_⟩
  rw[List.length_map]
  exact q2 bs hbs H1 S1
theorem sc_Disk_names:FnScope ["self"] ["self"] (defScope s_names):=‹0›
theorem ok_names {f:Addr} {fd:FuncData} (F:Fun K "names" "Disk.names" s_names f fd) (T:‹1›):‹9› 1 f fd ["self"] (sp_names C_Disk):=by
 refine F.okX sc_Disk_names (fun vs H Q E h=>?_) (fun cdv A outer s H vs Q E hr h=>?_)
 ·obtain⟨dk,df,kvs,D,rfl,_⟩:=h
  rfl
 ·obtain⟨dk,df,kvs,D,rfl,hD,hl,q⟩:=h
  refine⟨_,@pss_one _ _ _ (@ps_ret _ _ _ _ (@pe_callB _ _ _ _ _ _ _ _ _ (call_sortedS (by rfl)) (by rfl) T.n_sorted bt_sorted ‹50› ⋯ ⋯ ⋯ ⋯)),?_⟩
  obtain⟨dx,h1⟩:=hD.self
  refine⟨_,rfl,dk,_,dx,_,_,rfl,h1,T.cl,T.f_files,rfl,df,kvs,_,rfl,hD.files,hD.rel.keys,by rw[List.length_map]; omega,fun p ms perm so hp=>?_⟩
  exact q p ms perm so _ (same_upd hp) upd_same hp
theorem left_v {H:Hp} {v:V} {d:PyData} (hd:Den H d v) (hs:stepsOk d=true):v=leftV (leftD d):=by
 cases d with
 | none=>simp only[Den]at hd; exact hd
 | int n=>simp only[Den]at hd; exact hd
 | _=>cases hs
theorem sc_Disk___init__:FnScope ["self","steps"] ["self","steps"] (defScope s_dinit):=‹0›
theorem ok_dinit {f:Addr} {fd:FuncData} (F:Fun K "__init__" "Disk.__init__" s_dinit f fd) (T:‹1›) (c_check_steps:‹10› "check_steps" 2 ["steps"] (sp_check_steps C_BadNumber)):‹9› 3 f fd ["self","steps"] (sp_dinit C_Disk C_BadNumber):=by
 refine F.okX sc_Disk___init__ (fun vs H Q E h=>?_) (fun cdv A outer s H vs Q E hr h=>?_)
 ·obtain⟨dk,dx,v,d,rfl,_⟩:=h
  rfl
 ·obtain⟨dk,dx,v,d,rfl,h1,hd,qb,q⟩:=h
  refine⟨_,@pss_cons _ _ _ _ _ (ps_expr (pe_fn c_check_steps ‹15› passS (pa_Name (pv 1) pa_nil))) (@pss_cons _ _ _ _ _ (@ps_fld _ _ _ _ _ _ _ _ ‹20› (@pe_dnewK _ _) (by rfl)) (@pss_cons _ _ _ _ _ (@ps_fld _ _ _ _ _ _ _ _ ‹20› ‹24› (by rfl)) (@pss_one _ _ _ (@ps_fld _ _ _ _ _ _ _ _ ‹20› ‹21› (by rfl))))),?_⟩
  refine⟨_,rfl,v,d,rfl,hd,fun hs=>?_,qb⟩
  have ev:=left_v hd hs
  subst ev
  refine fun df hdf=>?_
  have ndf:dk≠df:=fun z=>by rw[z,hdf]at h1; cases h1
  refine⟨_,rfl,dk,_,dx,_,rfl,by rw[upd_ne ndf]; exact h1,T.cl,T.f_files,(by show 0<1000; decide),?_⟩
  refine⟨_,rfl,dk,_,dx,_,rfl,upd_same,T.cl,T.f_steps_done,(by show 1<1000; decide),?_⟩
  refine⟨_,rfl,_,rfl,dk,_,dx,_,rfl,upd_same,T.cl,T.f_steps_ahead,(by show 2<1000; decide),?_⟩
  refine q hs df _ (fun b o e nb=>?_) hdf ⟨⟨dx,?_⟩,?_,trivial,List.nodup_nil,List.nodup_nil⟩
  ·rw[upd_ne nb,upd_ne nb,upd_ne nb,upd_ne (fun z=>by rw[z,hdf]at e; cases e)]
   exact e
  ·rw[upd_same]
   rfl
  ·rw[upd_ne (Ne.symm ndf),upd_ne (Ne.symm ndf),upd_ne (Ne.symm ndf)]
   exact upd_same
theorem sc_Disk_make:FnScope ["self","name"] ["self","name"] (defScope s_make):=‹0›
theorem ok_make {f:Addr} {fd:FuncData} (F:Fun K "make" "Disk.make" s_make f fd) (T:‹1›) (c_check_name:‹10› "check_name" 2 ["name"] (sp_check_name C_BadName)) (m_count_step:‹8›):‹9› 3 f fd ["self","name"] (sp_make C_Disk C_BadName C_There C_Stopped):=by
 refine F.okX sc_Disk_make (fun vs H Q E h=>?_) (fun cdv A outer s H vs Q E hr h=>?_)
 ·obtain⟨dk,df,kvs,D,v,d,rfl,_⟩:=h
  rfl
 ·obtain⟨dk,df,kvs,D,v,d,rfl,hD,hd,hn,hl,qb,q⟩:=h
  refine⟨_,@pss_cons _ _ _ _ _ (ps_expr (pe_fn c_check_name ‹15› passS (pa_Name (pv 1) pa_nil))) (@pss_cons _ _ _ _ _ (@ps_if _ _ _ _ _ _ _ _ (@pt_cmp _ _ _ _ _ _ (@pc_din _ _ _ _ _ (hu1 hr.units) ‹21› ‹32›) ⋯) (@pss_one _ _ _ (@ps_raise _ _ _ _ _ _ _ _ _ _ raisesB (by rfl) T.x_There (by rfl) T.m_There ‹23› ⋯ ⋯ ⋯)) (@pss_nil _)) (@pss_cons _ _ _ _ _ (ps_expr (pe_me0 m_count_step T.cl ‹15› passS (pv 0))) (@pss_one _ _ _ (@ps_dput _ _ _ _ _ _ _ _ _ (hu1 hr.units) ‹32› ‹21› (@pe_lst _ _ _ _ (@pa_nil _)) (by rfl))))),?_⟩
  refine⟨_,rfl,v,d,rfl,hd,hn,fun hw H1 S1=>?_,qb⟩
  obtain⟨n,rfl⟩:=word_str hw
  obtain⟨qt,q2⟩:=q n rfl hw
  have ev:v = .str n:=by simpa only[Den] using hd
  subst ev
  have hD1:=hD.same S1
  obtain⟨dx,h1⟩:=hD1.self
  refine⟨_,rfl,_,rfl,dk,_,dx,_,_,rfl,h1,T.cl,T.f_files,rfl,df,_,rfl,DGet.k (k:=Sum.inr n) hD1.files,_,rfl,?_⟩
  have hv:=hD1.rel.val (n:=n)
  cases he:lookF D.fs n with
  | some bs=>
   rw[he]at hv
   obtain⟨v,hv1,_⟩:=hv
   rw[hv1]
   exact iteT ⟨(by show 1<=sizeLine; decide),qt bs he H1 S1⟩
  | none=>
   rw[he]at hv
   have hv:valV kvs (Sum.inr n)=none:=hv
   rw[hv]
   refine iteF ?_
   refine go_next rfl ?_
   obtain⟨qs,q3⟩:=q2 he
   refine⟨_,rfl,dk,dx,_,rfl,h1,rfl,dk,df,kvs,D,rfl,hD1,fun D1 hs H2 f2 hD2=>?_,fun hs=>qs hs H1 S1⟩
   refine⟨(by show 0<=sizeLine; decide),fun l hl3=>?_⟩
   have S3:=same_upd (o:=.lst []) hl3
   generalize eH3:upd H2 l (.lst [])=H3 at S3 ⊢
   have g3:H3 l=some (.lst []):=by rw[<- eH3]; exact upd_same
   have hD3:=hD2.same S3
   obtain⟨dx3,h13⟩:=hD3.self
   have hkl:kvs.length<sizeLine:=by rw[hD.rel.len]; exact Nat.lt_trans hl (by decide)
   refine⟨_,rfl,dk,_,dx3,_,_,rfl,h13,T.cl,T.f_files,rfl,_,rfl,df,_,rfl,DPut.k (k:=Sum.inr n) hD3.files hkl,?_⟩
   have epk:putK kvs (Sum.inr n) (V.ref l)=kvs++[(Sum.inr n,V.ref l)]:=putK_new _ hv
   rw[epk]
   obtain⟨o1,o2,o3⟩:=own_self hD3
   have nlm:V.ref l ∉ kvs.map (·.2):=fun hm=>by
    have:∀ {fs:List (Str × List Int)} {kvs:List (Key × V)},FsR H2 fs kvs->V.ref l∈kvs.map (·.2)->H2 l≠none:=by
     intro fs
     induction fs with
     | nil=>
      intro kvs hr hb
      cases kvs with
      | nil=>simp at hb
      | cons _ _=>exact hr.elim
     | cons p fs ih=>
      intro kvs hr hb
      cases kvs with
      | nil=>exact hr.elim
      | cons q kvs=>
       obtain⟨_,⟨l',e,g⟩,h3⟩:=hr
       rw[List.map_cons,List.mem_cons]at hb
       rcases hb with hb | hb
       ·rw[e]at hb
        cases hb
        rw[g]
        exact fun z=>by cases z
       ·exact ih h3 hb
    exact this hD2.rel hm hl3
   have ldf:l≠df:=fun z=>by rw[z,hD2.files]at hl3; cases hl3
   have hl0:H l=none:=by
    cases e:H l with
    | none=>rfl
    | some o=>
     have ldk:l≠dk:=fun z=>by
      obtain⟨dx2,h12⟩:=hD2.self
      rw[z,h12]at hl3
      cases hl3
     rw[f2 l o (S1 _ _ e) ldk]at hl3
     cases hl3
   refine q3 D1 hs (kvs++[(Sum.inr n,V.ref l)]) _ (fun b o e nb=>?_) (fun b hb=>?_) ⟨⟨dx3,by rw[upd_ne o1]; exact h13⟩,upd_same,?_,?_,?_⟩
   ·have nb1:b≠dk:=fun z=>nb (.inl z)
    have nb2:b≠df:=fun z=>nb (.inr (.inl z))
    rw[upd_ne nb2]
    exact S3 _ _ (f2 b o (S1 _ _ e) nb1)
   ·rcases hb with hb | hb | hb
    ·exact .inl (.inl hb)
    ·exact .inl (.inr (.inl hb))
    ·rw[List.map_append,List.mem_append]at hb
     rcases hb with hb | hb
     ·exact .inl (.inr (.inr hb))
     ·have:b=l:=by simpa using hb
      subst this
      exact .inr hl0
   ·refine(hD3.rel.same fun b o e m=>?_).snoc ⟨l,rfl,by rw[upd_ne ldf]; exact g3⟩
    rw[upd_ne (fun z=>by rw[z]at m; exact o3 m)]
    exact e
   ·rw[List.map_append,List.nodup_append]
    refine⟨hD.nd,by simp,?_⟩
    intro a ha b hb
    have:b=V.ref l:=by simpa using hb
    subst this
    rintro rfl
    exact nlm ha
   ·show ((D1.fs++[(n,([]:List Int))]).map (·.1)).Nodup
    rw[List.map_append,List.nodup_append,step_fs hs]
    refine⟨hD.kn,by simp,?_⟩
    intro a ha b hb
    have:b=n:=by simpa using hb
    subst this
    rintro rfl
    exact look_none he ha
end
end Qh
end
section
namespace Qh
open PySem L2
abbrev s_add:Stmt:=inClass (top 60) 3
abbrev s_cut:Stmt:=inClass (top 60) 4
def setA (fs:List (Str × List Int)) (n:Str) (e:List Int):List (Str × List Int):=fs.map fun p=>if p.1=n then (p.1,e) else p
theorem setA_keys (fs:List (Str × List Int)) (n:Str) (e:List Int):(setA fs n e).map (·.1)=fs.map (·.1):=by
 unfold setA
 rw[List.map_map]
 apply List.map_congr_left
 intro p _
 show (if p.1=n then (p.1,e) else p).1=p.1
 split <;> rfl
theorem setA_no {fs:List (Str × List Int)} {n:Str} {e:List Int} (h:n ∉ fs.map (·.1)):setA fs n e=fs:=by
 unfold setA
 have:fs.map (fun p=>if p.1=n then (p.1,e) else p)=fs.map id:=by
  apply List.map_congr_left
  intro p hp
  rw[if_neg (fun z=>h (by rw[<- z]; exact List.mem_map_of_mem hp))]
  rfl
 rw[this,List.map_id]
theorem setA_look {fs:List (Str × List Int)} {n:Str} {e bs:List Int} (h:lookF fs n=some bs):lookF (setA fs n e) n=some e:=by
 induction fs with
 | nil=>cases h
 | cons p fs ih=>
  unfold setA
  rw[List.map_cons]
  by_cases z:p.1=n
  ·rw[if_pos z]
   simp [lookF,z]
  ·rw[if_neg z]
   have h':lookF fs n=some bs:=by simpa [lookF,z] using h
   have:=ih h'
   unfold setA at this
   simpa [lookF,z] using this
theorem val_mem {kvs:List (Key × V)} {k:Key} {v:V} (h:valV kvs k=some v):v∈kvs.map (·.2):=by
 unfold valV at h
 rw[Option.map_eq_some_iff]at h
 obtain⟨p,hp,rfl⟩:=h
 exact List.mem_map_of_mem (List.mem_of_find?_eq_some hp)
theorem FsR.wr {H:Hp} {n:Str} {l:Addr} {e:List Int}:∀ {fs:List (Str × List Int)} {kvs:List (Key × V)},FsR H fs kvs->(kvs.map (·.2)).Nodup->(fs.map (·.1)).Nodup->valV kvs (Sum.inr n)=some (.ref l)->FsR (upd H l (.lst (e.map V.int))) (setA fs n e) kvs
 | [],[],_,_,_,h=>by cases h
 | p::fs,q::kvs,h,nd,kn,hv=>by
  obtain⟨h1,⟨l',e',g⟩,h3⟩:=h
  rw[List.map_cons,List.nodup_cons]at nd kn
  by_cases z:p.1=n
  ·have e1:valV (q::kvs) (Sum.inr n)=some q.2:=valV_pos (by rw[h1,z])
   rw[e1]at hv
   have hq:q.2=V.ref l:=Option.some.inj hv
   have es:setA (p::fs) n e=(p.1,e)::fs:=by
    show (if p.1=n then (p.1,e) else p)::setA fs n e=_
    rw[if_pos z,setA_no (by rw[<- z]; exact kn.1)]
   rw[es]
   refine⟨h1,⟨l,hq,upd_same⟩,h3.same fun b o eb m=>?_⟩
   rw[upd_ne (fun y=>by rw[y,<- hq]at m; exact nd.1 m)]
   exact eb
  ·have e1:valV (q::kvs) (Sum.inr n)=valV kvs (Sum.inr n):=valV_neg (by rw[h1,inr_eq]; exact z)
   rw[e1]at hv
   have es:setA (p::fs) n e=p::setA fs n e:=by
    show (if p.1=n then (p.1,e) else p)::setA fs n e=_
    rw[if_neg z]
   rw[es]
   have nl:l'≠l:=fun y=>by
    subst y
    exact nd.1 (by rw[e']; exact val_mem hv)
   exact⟨h1,⟨l',e',by rw[upd_ne nl]; exact g⟩,FsR.wr h3 nd.2 kn.2 hv⟩
 | [],_::_,h,_,_,_=>h.elim
 | _::_,[],h,_,_,_=>h.elim
theorem byt_formD {H:Hp} {d:PyData} {v:V} (hd:Den H d v) (hb:isByt d=true):∃ a bs,d = .tuple bs/\v = .ref a/\H a=some (.tup ((intsOf d).map V.int))/\(intsOf d).length=bs.length:=by
 cases d with
 | tuple bs=>
  simp only[Den]at hd
  obtain⟨a,ys,rfl,ha,hbs⟩:=hd
  have ei:=byt_ints hbs hb
  subst ei
  exact⟨a,bs,rfl,rfl,ha,List.length_map _⟩
 | _=>exact absurd hb (by simp [isByt])
def addG (n:Str):Dk->List Int->Dk × Bool
 | D,[]=>(D,true)
 | D,b::bs=>match stepF D with
  | none=>(D,false)
  | some D1=>addG n ⟨setA D1.fs n ((lookF D1.fs n).getD []++[b]),D1.done,D1.left⟩ bs
def sp_add (C C_BadName C_Missing C_BadRow C_Stopped:Addr):Sp:=fun vs H Q E=>∃ (dk df:Addr) (kvs:List (Key × V)) (D:Dk) (v v2:V) (d d2:PyData),vs=[.ref dk,v,v2]/\DiskAt C H dk df kvs D/\Den H d v/\nameOk d/\Den H d2 v2/\(∀ bs,d2 = .tuple bs->bs.length<=100000)/\(∀ n bs,lookF D.fs n=some bs->bs.length<=100000)/\
 (wordD signs36 8 d=false->∀ H',Same H H'->E (.ref C_BadName) none H')/\(∀ n,d = .str n->wordD signs36 8 d=true->(lookF D.fs n=none->∀ H',Same H H'->E (.ref C_Missing) none H')/\
  (∀ bs,lookF D.fs n=some bs->(isByt d2=false->∀ H',Same H H'->E (.ref C_BadRow) none H')/\(isByt d2=true->∀ H',FrmD dk df kvs H H'->DiskAt C H' dk df kvs (addG n D (intsOf d2)).1->((addG n D (intsOf d2)).2=true->Q .non H')/\((addG n D (intsOf d2)).2=false->E (.ref C_Stopped) none H'))))
section
variable {P:Program} {w:World} {K:PySem.W.Frag} {mg:Str->Option Value} {base:Heap} {C_BadName C_Missing C_There C_Stopped C_BadRow C_BadNumber C_Disk:Addr}
theorem sc_Disk_drop:FnScope ["self","name"] ["self","name"] (defScope s_drop):=‹0›
theorem ok_drop {f:Addr} {fd:FuncData} (F:Fun K "drop" "Disk.drop" s_drop f fd) (T:‹1›) (m_check_file:‹3›) (m_count_step:‹8›):‹9› 4 f fd ["self","name"] (sp_drop C_Disk C_BadName C_Missing C_Stopped):=by
 refine F.okX sc_Disk_drop (fun vs H Q E h=>?_) (fun cdv A outer s H vs Q E hr h=>?_)
 ·obtain⟨dk,df,kvs,D,v,d,rfl,_⟩:=h
  rfl
 ·obtain⟨dk,df,kvs,D,v,d,rfl,hD,hd,hn,qb,q⟩:=h
  refine⟨_,@pss_cons _ _ _ _ _ (ps_expr (pe_me m_check_file T.cl ‹15› passS (pv 0) (pa_Name (pv 1) pa_nil))) (@pss_cons _ _ _ _ _ (ps_expr (pe_me0 m_count_step T.cl ‹15› passS (pv 0))) (@pss_one _ _ _ (ps_expr (pe_bmK K PySem.F.plainAttrs_dict PySem.F.slot_dict_pop PySem.F.type_dict_pop mt_dpop (pe_fld (pv 0) (by rfl)) (pa_Name (pv 1) pa_nil))))),?_⟩
  obtain⟨dx,h1⟩:=hD.self
  refine⟨_,rfl,dk,dx,_,rfl,h1,rfl,_,rfl,dk,df,kvs,D,v,d,rfl,hD,hd,hn,qb,fun n en hw=>?_⟩
  obtain⟨qm,q2⟩:=q n en hw
  subst en
  have ev:v = .str n:=by simpa only[Den] using hd
  subst ev
  refine⟨qm,fun bs hbs H1 S1=>?_⟩
  obtain⟨qs,q3⟩:=q2 bs hbs
  have hD1:=hD.same S1
  refine⟨_,rfl,dk,dx,_,rfl,S1 _ _ h1,rfl,dk,df,kvs,D,rfl,hD1,fun D1 hs H2 f2 hD2=>?_,fun hs=>qs hs H1 S1⟩
  obtain⟨dx2,h12⟩:=hD2.self
  have hv:=hD2.rel.val (n:=n)
  rw[step_fs hs,hbs]at hv
  obtain⟨v,hv1,_⟩:=hv
  refine⟨_,rfl,dk,_,dx2,_,_,rfl,h12,T.cl,T.f_files,rfl,.inr (.inr (.inl ⟨rfl,.inl ⟨kvs,hD2.files⟩⟩)),_,rfl,df,kvs,Sum.inr n,_,rfl,rfl,hD2.files,hv1,?_⟩
  obtain⟨o1,o2,o3⟩:=own_self hD2
  have sub:(dropK kvs (Sum.inr n)).Sublist kvs:=List.filter_sublist
  have subf:(dropA D1.fs n).Sublist D1.fs:=List.filter_sublist
  refine q3 D1 hs (dropK kvs (Sum.inr n)) _ (fun b o e nb=>?_) (fun b hb=>?_) ⟨⟨dx2,by rw[upd_ne o1]; exact h12⟩,upd_same,?_,?_,?_⟩
  ·rw[upd_ne (fun z=>nb (.inr (.inl z)))]
   exact f2 b o (S1 _ _ e) (fun z=>nb (.inl z))
  ·rcases hb with hb | hb | hb
   ·exact .inl (.inl hb)
   ·exact .inl (.inr (.inl hb))
   ·exact .inl (.inr (.inr ((sub.map _).subset hb)))
  ·refine(hD2.rel.drop (n:=n)).same fun b o e m=>?_
   rw[upd_ne (fun z=>by rw[z]at m; exact o3 ((sub.map _).subset m))]
   exact e
  ·exact hD2.nd.sublist (sub.map _)
  ·exact hD2.kn.sublist (subf.map _)
theorem sc_Disk_add:FnScope ["self","name","some","one"] ["self","name","some"] (defScope s_add):=‹0›
set_option maxHeartbeats 1000000 in
theorem ok_add {f:Addr} {fd:FuncData} (F:Fun K "add" "Disk.add" s_add f fd) (T:‹1›) (c_is_bytes:‹10› "is_bytes" 2 ["thing"] sp_is_bytes) (m_check_file:‹3›) (m_count_step:‹8›):‹9› 4 f fd ["self","name","some"] (sp_add C_Disk C_BadName C_Missing C_BadRow C_Stopped):=by
 refine F.okX sc_Disk_add (fun vs H Q E h=>?_) (fun cdv A outer s H vs Q E hr h=>?_)
 ·obtain⟨dk,df,kvs,D,v,v2,d,d2,rfl,_⟩:=h
  rfl
 ·obtain⟨dk,df,kvs,D,v,v2,d,d2,rfl,hD,hd,hn,hd2,hz2,hzf,qb,q⟩:=h
  refine⟨_,@pss_cons _ _ _ _ _ (ps_expr (pe_me m_check_file T.cl ‹15› passS (pv 0) (pa_Name (pv 1) pa_nil))) (@pss_cons _ _ _ _ _ (@ps_if _ _ _ _ _ _ _ _ (@pt_not _ _ _ _ (@pt_val _ _ _ (@pe_fn _ _ _ _ _ _ _ _ _ _ _ c_is_bytes ‹15› passN ‹47› ⋯ ⋯ ⋯ ⋯) ⋯)) ‹44› (@pss_nil _)) (@pss_one _ _ _ (@ps_for _ _ _ _ _ _ _ _ (ownB own_cx) (by rfl) (@pi_tupK _ K _ _ _ ‹25› ⋯) (@pg_name _ _ (3) _ sc_Disk_add.nd (by rfl) (by first | exact Or.inl (by rfl) | exact Or.inr (by rfl)) ⋯) (@pss_cons _ _ _ _ _ (ps_expr (pe_me0 m_count_step T.cl ‹15› passS (pv 0))) (@pss_one _ _ _ (ps_expr (pe_bmK K PySem.F.plainAttrs_list PySem.F.slot_list_append PySem.F.type_list_append mt_append (pe_dget (hu1 hr.units) (pe_fld (pv 0) (by rfl)) (pv 1) (fun _ _=>rfl)) (pa_Name (pv 3) pa_nil))))) ⋯))),?_⟩
  obtain⟨dx,h1⟩:=hD.self
  refine⟨_,rfl,dk,dx,_,rfl,h1,rfl,_,rfl,dk,df,kvs,D,v,d,rfl,hD,hd,hn,qb,fun n en hw=>?_⟩
  obtain⟨qm,q2⟩:=q n en hw
  subst en
  have ev:v = .str n:=by simpa only[Den] using hd
  subst ev
  refine⟨qm,fun bs hbs H1 S1=>?_⟩
  obtain⟨qr,q3⟩:=q2 bs hbs
  refine⟨_,rfl,v2,d2,rfl,hd2.same S1,fun ds e=>Nat.le_trans (hz2 ds e) (by decide),fun H2 S2=>⟨_,rfl,?_⟩⟩
  have S02:Same H H2:=S1.trans S2
  cases hb:isByt d2 with
  | false=>exact iteT ⟨(by show 1<=sizeLine; decide),qr hb H2 S02⟩
  | true=>
  refine iteF ?_
  refine go_next rfl ?_
  have q4:=q3 hb
  have hD2:=hD.same S02
  obtain⟨a2,bs2,rfl,rfl,ga2,l2⟩:=byt_formD hd2 hb
  have z2:=hz2 bs2 rfl
  have zf:=hzf n bs hbs
  generalize intsOf (.tuple bs2)=ns at ga2 l2 q4
  have ga:H2 a2=some (.tup (ns.map V.int)):=S02 _ _ ga2
  refine⟨_,rfl,a2,rfl,⟨_,SqT.of ga⟩,?_⟩
  have sq0:SqT K (fun a=>if a=a2 then some (.tup (ns.map V.int)) else none) a2 (ns.map V.int):=SqT.of (if_pos rfl)
  have lm:(ns.map V.int).length=ns.length:=List.length_map _
  have na:¬ own dk df kvs a2:=by
   rintro (z | z | z)
   ·obtain⟨dx2,h12⟩:=hD2.self
    rw[z,h12]at ga
    cases ga
   ·rw[z,hD2.files]at ga
    cases ga
   ·have key:∀ {fs:List (Str × List Int)} {kvs:List (Key × V)},FsR H2 fs kvs->V.ref a2∈kvs.map (·.2)->∃ xs,H2 a2=some (.lst xs):=by
     intro fs
     induction fs with
     | nil=>
      intro kvs hr hb
      cases kvs with
      | nil=>simp at hb
      | cons _ _=>exact hr.elim
     | cons p fs ih=>
      intro kvs hr hb
      cases kvs with
      | nil=>exact hr.elim
      | cons q kvs=>
       obtain⟨_,⟨l',e,g⟩,h3⟩:=hr
       rw[List.map_cons,List.mem_cons]at hb
       rcases hb with hb | hb
       ·rw[e]at hb
        cases hb
        exact⟨_,g⟩
       ·exact ih h3 hb
    obtain⟨xs,e⟩:=key hD2.rel z
    rw[ga]at e
    cases e
  refine for_src0 (H0:=fun a=>if a=a2 then some (.tup (ns.map V.int)) else none) (src_tup (K:=K) sq0) (fun i σ H'=>H' a2=some (.tup (ns.map V.int))/\FrmD dk df kvs H H'/\∃ Di bsi z3,DiskAt C_Disk H' dk df kvs Di/\lookF Di.fs n=some bsi/\bsi.length<=bs.length+i/\addG n D ns=addG n Di (ns.drop i)/\σ = [some (.ref dk),some (.str n),some (.ref a2),z3]) ?i0 ?kp ?_ ?_
  case i0=>exact⟨ga,fun b o e _=>S02 b o e,D,bs,none,hD2,hbs,Nat.le_refl _,rfl,rfl⟩
  case kp=>
   intro i σ H' h b o e
   by_cases z:b=a2
   ·subst z
    have e:some (HO.tup (ns.map V.int))=some o:=by simpa using e
    rw[<- e]
    exact h.1
   ·have e:none=some o:=by simpa [z] using e
    cases e
  ·rintro i x σ H5 H6 hi ⟨g5,f5,Di,bsi,z3,hDi,hlk,hlen,hadd,rfl⟩ s6 hx
   rw[lm]at hi
   rw[List.getElem?_map,List.getElem?_eq_getElem hi]at hx
   cases hx
   rw[List.drop_eq_getElem_cons hi]at hadd
   have hD6:=hDi.same s6
   obtain⟨dx6,h16⟩:=hD6.self
   have f6:FrmD dk df kvs H H6:=fun b o e nb=>s6 _ _ (f5 b o e nb)
   refine⟨_,rfl,dk,dx6,_,rfl,h16,rfl,dk,df,kvs,Di,rfl,hD6,fun D1 hs H7 f7 hD7=>?_,fun hs=>?_⟩
   ·obtain⟨dx7,h17⟩:=hD7.self
    have hv:=hD7.rel.val (n:=n)
    rw[step_fs hs,hlk]at hv
    obtain⟨v7,hv1,l,rfl,gl⟩:=hv
    have dg:DGet H7 df (.str n) (some (.ref l)):=by
     have:=DGet.k (k:=Sum.inr n) hD7.files
     rw[hv1]at this
     exact this
    refine⟨_,rfl,dk,_,dx7,_,_,rfl,h17,T.cl,T.f_files,rfl,_,rfl,df,_,rfl,dg,.inl ⟨rfl,_,SqL.of gl⟩,_,rfl,l,_,_,rfl,rfl,gl,?_,?_⟩
    ·rw[List.length_map]
     exact Nat.lt_of_le_of_lt (show _<=200000 by omega) (by decide)
    have hlm:=val_mem hv1
    have em:bsi.map V.int++[V.int ns[i]]=(bsi++[ns[i]]).map V.int:=by rw[List.map_append]; rfl
    rw[em]
    obtain⟨o1,o2,o3⟩:=own_self hD7
    have nl:a2≠l:=fun z=>na (.inr (.inr (by rw[z]; exact hlm)))
    have nk:a2≠dk:=fun z=>na (.inl z)
    refine⟨?_,fun b o e nb=>?_,⟨setA D1.fs n (bsi++[ns[i]]),D1.done,D1.left⟩,bsi++[ns[i]],_,⟨⟨dx7,?_⟩,?_,hD7.rel.wr hD7.nd hD7.kn hv1,hD7.nd,?_⟩,?_,?_,?_,rfl⟩
    ·rw[upd_ne nl]
     exact f7 _ _ (s6 _ _ g5) nk
    ·rw[upd_ne (fun z=>nb (.inr (.inr (by rw[z]; exact hlm))))]
     exact f7 _ _ (f6 b o e nb) (fun z=>nb (.inl z))
    ·rw[upd_ne (fun z=>by rw[<- z]at hlm; exact o2 hlm)]
     exact h17
    ·rw[upd_ne (fun z=>by rw[<- z]at hlm; exact o3 hlm)]
     exact hD7.files
    ·show ((setA D1.fs n (bsi++[ns[i]])).map (·.1)).Nodup
     rw[setA_keys]
     exact hD7.kn
    ·show lookF (setA D1.fs n (bsi++[ns[i]])) n=_
     rw[step_fs hs]
     exact setA_look hlk
    ·rw[List.length_append]
     show bsi.length+1<=_
     omega
    ·rw[hadd]
     show (match stepF Di with | none=>(Di,false) | some D1=>addG n ⟨setA D1.fs n ((lookF D1.fs n).getD []++[ns[i]]),D1.done,D1.left⟩ (ns.drop (i+1)))=_
     rw[hs]
     dsimp only
     rw[step_fs hs,hlk]
     rfl
   ·have e1:addG n D ns=(Di,false):=by
     rw[hadd]
     show (match stepF Di with | none=>(Di,false) | some D1=>addG n ⟨setA D1.fs n ((lookF D1.fs n).getD []++[ns[i]]),D1.done,D1.left⟩ (ns.drop (i+1)))=_
     rw[hs]
    rw[e1]at q4
    exact(q4 H6 f6 hD6).2 rfl
  ·rintro σ H5 ⟨g5,f5,Di,bsi,z3,hDi,hlk,hlen,hadd,rfl⟩
   rw[lm,List.drop_of_length_le (Nat.le_refl _)]at hadd
   have e1:addG n D ns=(Di,true):=hadd
   rw[e1]at q4
   exact(q4 H5 f5 hDi).1 rfl
end
def sizeOf':PyData->Nat
 | .int n=>n.toNat
 | _=>0
def sp_cut (C C_BadName C_Missing C_BadNumber C_Stopped:Addr):Sp:=fun vs H Q E=>∃ (dk df:Addr) (kvs:List (Key × V)) (D:Dk) (v v2:V) (d d2:PyData),vs=[.ref dk,v,v2]/\DiskAt C H dk df kvs D/\Den H d v/\nameOk d/\Den H d2 v2/\D.fs.length<1000/\
 (wordD signs36 8 d=false->∀ H',Same H H'->E (.ref C_BadName) none H')/\(∀ n,d = .str n->wordD signs36 8 d=true->(lookF D.fs n=none->∀ H',Same H H'->E (.ref C_Missing) none H')/\
  (∀ bs,lookF D.fs n=some bs->(isNum 0 bs.length d2=false->∀ H',Same H H'->E (.ref C_BadNumber) none H')/\(isNum 0 bs.length d2=true->(stepF D=none->∀ H',Same H H'->E (.ref C_Stopped) none H')/\
   (∀ D1,stepF D=some D1->∀ kvs' H',FrmD dk df kvs H H'->Grow dk df kvs kvs' H->DiskAt C H' dk df kvs' ⟨setA D1.fs n (bs.take (sizeOf' d2)),D1.done,D1.left⟩->Q .non H'))))
theorem FsR.mapP {H:Hp} {n:Str} {e:List Int} {v:V} (hv:fileAt H v e):∀ {fs:List (Str × List Int)} {kvs:List (Key × V)},FsR H fs kvs->FsR H (setA fs n e) (kvs.map fun kv=>if kv.1=Sum.inr n then (kv.1,v) else kv)
 | [],[],_=>trivial
 | p::fs,q::kvs,h=>by
  obtain⟨h1,h2,h3⟩:=h
  show FsR H ((if p.1=n then (p.1,e) else p)::setA fs n e) _
  rw[List.map_cons]
  by_cases z:p.1=n
  ·rw[if_pos z,if_pos (show q.1=Sum.inr n by rw[h1,z])]
   exact⟨h1,hv,FsR.mapP hv h3⟩
  ·rw[if_neg z,if_neg (show ¬ q.1=Sum.inr n by rw[h1,inr_eq]; exact z)]
   exact⟨h1,h2,FsR.mapP hv h3⟩
 | [],_::_,h=>h.elim
 | _::_,[],h=>h.elim
theorem put_nd {n:Str} {v:V}:∀ {kvs:List (Key × V)},(kvs.map (·.2)).Nodup->(kvs.map (·.1)).Nodup->v ∉ kvs.map (·.2)->((kvs.map fun kv=>if kv.1=Sum.inr n then (kv.1,v) else kv).map (·.2)).Nodup
 | [],_,_,_=>List.nodup_nil
 | q::kvs,h1,h2,h3=>by
  rw[List.map_cons,List.nodup_cons]at h1 h2
  have h3':v ∉ kvs.map (·.2):=fun m=>h3 (by rw[List.map_cons]; exact List.mem_cons_of_mem _ m)
  have ih:=put_nd (n:=n) h1.2 h2.2 h3'
  rw[List.map_cons,List.map_cons,List.nodup_cons]
  by_cases z:q.1=Sum.inr n
  ·have e:(kvs.map fun kv=>if kv.1=Sum.inr n then (kv.1,v) else kv)=kvs.map id:=by
    apply List.map_congr_left
    intro p hp
    rw[if_neg (fun y=>h2.1 (by rw[z,<- y]; exact List.mem_map_of_mem hp))]
    rfl
   rw[if_pos z,e,List.map_id]
   exact⟨h3',h1.2⟩
  ·rw[if_neg z]
   refine⟨fun m=>?_,ih⟩
   rw[List.mem_map]at m
   obtain⟨p,hp,e⟩:=m
   rw[List.mem_map]at hp
   obtain⟨r,hr,rfl⟩:=hp
   by_cases y:r.1=Sum.inr n
   ·rw[if_pos y]at e
    exact h3 (by rw[List.map_cons,<- e]; exact List.mem_cons_self)
   ·rw[if_neg y]at e
    exact h1.1 (by rw[<- e]; exact List.mem_map_of_mem hr)
theorem file_lst {H:Hp}:∀ {fs:List (Str × List Int)} {kvs:List (Key × V)},FsR H fs kvs->∀ {b:Addr},V.ref b∈kvs.map (·.2)->∃ xs,H b=some (.lst xs)
 | [],[],_,b,h=>by simp at h
 | p::fs,q::kvs,hr,b,hb=>by
  obtain⟨_,⟨l',e,g⟩,h3⟩:=hr
  rw[List.map_cons,List.mem_cons]at hb
  rcases hb with hb | hb
  ·rw[e]at hb
   cases hb
   exact⟨_,g⟩
  ·exact file_lst h3 hb
 | [],_::_,h,_,_=>h.elim
 | _::_,[],h,_,_=>h.elim
section
variable {P:Program} {w:World} {K:PySem.W.Frag} {mg:Str->Option Value} {base:Heap} {C_BadName C_Missing C_There C_Stopped C_BadRow C_BadNumber C_Disk:Addr}
theorem sc_Disk_cut:FnScope ["self","name","size"] ["self","name","size"] (defScope s_cut):=‹0›
set_option maxHeartbeats 1000000 in
theorem ok_cut {f:Addr} {fd:FuncData} (F:Fun K "cut" "Disk.cut" s_cut f fd) (T:‹1›) (c_is_number:‹5›) (m_check_file:‹3›) (m_count_step:‹8›):‹9› 4 f fd ["self","name","size"] (sp_cut C_Disk C_BadName C_Missing C_BadNumber C_Stopped):=by
 refine F.okX sc_Disk_cut (fun vs H Q E h=>?_) (fun cdv A outer s H vs Q E hr h=>?_)
 ·obtain⟨dk,df,kvs,D,v,v2,d,d2,rfl,_⟩:=h
  rfl
 ·obtain⟨dk,df,kvs,D,v,v2,d,d2,rfl,hD,hd,hn,hd2,hfl,qb,q⟩:=h
  refine⟨_,@pss_cons _ _ _ _ _ (ps_expr (pe_me m_check_file T.cl ‹15› passS (pv 0) (pa_Name (pv 1) pa_nil))) (@pss_cons _ _ _ _ _ (@ps_if _ _ _ _ _ _ _ _ (@pt_not _ _ _ _ (@pt_val _ _ _ (@pe_fn _ _ _ _ _ _ _ _ _ _ _ c_is_number ‹15› passN (@pa_Name _ _ _ _ _ _ ‹25› (@pa_Constant _ _ _ _ _ _ _ ‹24› (@pa_Call _ _ _ _ _ _ _ _ (@pe_callB _ _ _ _ _ _ _ _ _ (call_lenK K) (by rfl) T.n_len bt_len (@pa_Subscript _ _ _ _ _ _ _ ‹51› (@pa_nil _)) ⋯ ⋯ ⋯ ⋯) (@pa_nil _)))) ⋯ ⋯ ⋯ ⋯) ⋯)) (@pss_one _ _ _ (@ps_raise _ _ _ _ _ _ _ _ _ _ raisesB (by rfl) T.x_BadNumber (by rfl) T.m_BadNumber ‹23› ⋯ ⋯ ⋯)) (@pss_nil _)) (@pss_cons _ _ _ _ _ (ps_expr (pe_me0 m_count_step T.cl ‹15› passS (pv 0))) (@pss_one _ _ _ (@ps_dput _ _ _ _ _ _ _ _ _ (hu1 hr.units) ‹32› ‹21› (@pe_slice _ _ _ _ _ _ _ _ _ _ (sl_listK K) ‹51› (@po_none _) (@po_some _ _ _ ‹25›)) (by rfl))))),?_⟩
  obtain⟨dx,h1⟩:=hD.self
  refine⟨_,rfl,dk,dx,_,rfl,h1,rfl,_,rfl,dk,df,kvs,D,v,d,rfl,hD,hd,hn,qb,fun n en hw=>?_⟩
  obtain⟨qm,q2⟩:=q n en hw
  subst en
  have ev:v = .str n:=by simpa only[Den] using hd
  subst ev
  refine⟨qm,fun bs hbs H1 S1=>?_⟩
  obtain⟨qr,q3⟩:=q2 bs hbs
  have hD1:=hD.same S1
  have hv:=hD1.rel.val (n:=n)
  rw[hbs]at hv
  obtain⟨v1,hv1,l,rfl,gl⟩:=hv
  have dg:DGet H1 df (.str n) (some (.ref l)):=by
   have:=DGet.k (k:=Sum.inr n) hD1.files
   rw[hv1]at this
   exact this
  refine⟨_,rfl,_,rfl,dk,_,dx,_,_,rfl,S1 _ _ h1,T.cl,T.f_files,rfl,_,rfl,df,_,rfl,dg,l,_,rfl,.inl (SqL.of gl),v2,d2,0,_,rfl,hd2.same S1,_,rfl,?_⟩
  rw[List.length_map]
  cases hb:isNum 0 bs.length d2 with
  | false=>exact iteT ⟨(by show 1<=sizeLine; decide),qr hb H1 S1⟩
  | true=>
  refine iteF ?_
  refine go_next rfl ?_
  obtain⟨qs,q4⟩:=q3 hb
  obtain⟨k,ek,rfl,kb⟩:∃ k:Nat,d2 = .int (k:Int)/\v2 = .int (k:Int)/\k<=bs.length:=by
   cases d2 with
   | int i=>
    simp only[isNum,Bool.and_eq_true,decide_eq_true_eq]at hb
    obtain⟨k,rfl⟩:=Int.eq_ofNat_of_zero_le hb.1
    exact⟨k,rfl,by simpa only[Den] using hd2,by omega⟩
   | _=>exact absurd hb (by simp [isNum])
  subst ek
  refine⟨_,rfl,dk,dx,_,rfl,S1 _ _ h1,rfl,dk,df,kvs,D,rfl,hD1,fun D1 hs H2 f2 hD2=>?_,fun hs=>qs hs H1 S1⟩
  obtain⟨dx2,h12⟩:=hD2.self
  obtain⟨o1,o2,o3⟩:=own_self hD2
  have hlm:=val_mem hv1
  have gl2:H2 l=some (.lst (bs.map V.int)):=f2 _ _ gl (fun z=>by rw[z]at hlm; exact o2 hlm)
  have dg2:DGet H2 df (.str n) (some (.ref l)):=by
   have:=DGet.k (k:=Sum.inr n) hD2.files
   rw[hv1]at this
   exact this
  refine⟨_,rfl,dk,_,dx2,_,_,rfl,h12,T.cl,T.f_files,rfl,_,rfl,df,_,rfl,dg2,_,rfl,_,rfl,l,_,rfl,SqL.of gl2,fun l3 hl3=>?_⟩
  rw[cut_to (by rw[List.length_map]; exact kb),<- List.map_take]
  have S3:=same_upd (o:=.lst ((bs.take k).map V.int)) hl3
  generalize eH3:upd H2 l3 (.lst ((bs.take k).map V.int))=H3 at S3 ⊢
  have g3:H3 l3=some (.lst ((bs.take k).map V.int)):=by rw[<- eH3]; exact upd_same
  have hD3:=hD2.same S3
  obtain⟨dx3,h13⟩:=hD3.self
  have hkl:kvs.length<sizeLine:=by rw[hD.rel.len]; exact Nat.lt_trans hfl (by decide)
  refine⟨_,rfl,dk,_,dx3,_,_,rfl,h13,T.cl,T.f_files,rfl,_,rfl,df,_,rfl,DPut.k (k:=Sum.inr n) hD3.files hkl,?_⟩
  have epk:putK kvs (Sum.inr n) (V.ref l3)=kvs.map fun kv=>if kv.1=Sum.inr n then (kv.1,V.ref l3) else kv:=by
   unfold putK
   rw[if_pos (by rw[valV_any,hv1]; rfl)]
  rw[epk]
  have nlm:V.ref l3 ∉ kvs.map (·.2):=fun hm=>by
   obtain⟨xs,e⟩:=file_lst hD2.rel hm
   rw[hl3]at e
   cases e
  have ldf:l3≠df:=fun z=>by rw[z,hD2.files]at hl3; cases hl3
  have ldk:l3≠dk:=fun z=>by rw[z,h12]at hl3; cases hl3
  have hl0:H l3=none:=by
   cases e:H l3 with
   | none=>rfl
   | some o=>
    rw[f2 l3 o (S1 _ _ e) ldk]at hl3
    cases hl3
  refine q4 D1 hs _ _ (fun b o e nb=>?_) (fun b hb'=>?_) ⟨⟨dx3,by rw[upd_ne o1]; exact h13⟩,upd_same,?_,?_,?_⟩
  ·rw[upd_ne (fun z=>nb (.inr (.inl z)))]
   exact S3 _ _ (f2 b o (S1 _ _ e) (fun z=>nb (.inl z)))
  ·rcases hb' with hb' | hb' | hb'
   ·exact .inl (.inl hb')
   ·exact .inl (.inr (.inl hb'))
   ·rw[List.mem_map]at hb'
    obtain⟨p,hp,e⟩:=hb'
    rw[List.mem_map]at hp
    obtain⟨r,hr',rfl⟩:=hp
    by_cases y:r.1=Sum.inr n
    ·rw[if_pos y]at e
     have:l3=b:=V.ref.inj e
     rw[<- this]
     exact .inr hl0
    ·rw[if_neg y]at e
     exact .inl (.inr (.inr (by rw[<- e]; exact List.mem_map_of_mem hr')))
  ·have base3:FsR (upd H3 df (.dK (kvs.map fun kv=>if kv.1=Sum.inr n then (kv.1,V.ref l3) else kv))) D1.fs kvs:=hD3.rel.same fun b o e m=>by
    rw[upd_ne (fun z=>by rw[z]at m; exact o3 m)]
    exact e
   exact base3.mapP ⟨l3,rfl,by rw[upd_ne ldf]; exact g3⟩
  ·refine put_nd hD.nd ?_ nlm
   rw[hD.rel.keys]
   exact List.Pairwise.map Sum.inr (fun a b h e=>h (Sum.inr.inj e)) hD.kn
  ·show ((setA D1.fs n (bs.take k)).map (·.1)).Nodup
   rw[setA_keys]
   exact hD2.kn
end
end Qh
end
section
namespace Qh
open PySem L2
structure Ad where
 kinds:Addr
 badRow:Addr
 broken:Addr
 book:Addr
 badName:Addr
 missing:Addr
 there:Addr
 stopped:Addr
 badNumber:Addr
 disk:Addr
 queue:Addr
 badSettings:Addr
 badBody:Addr
 badHand:Addr
 notHeld:Addr
structure TxtQ (K:PySem.W.Frag) (mg:Str->Option Value) (A:Ad):Prop where
 n_len:mg "len" = none
 n_int:mg "int" = none
 n_sorted:mg "sorted" = none
 n_sum:mg "sum" = none
 x_Broken:excIn K A.broken=true
 m_Broken:mg "Broken" = some (.ref A.broken)
 cl_Book:Cls K A.book
 cl_Disk:Cls K A.disk
 cl_Queue:Cls K A.queue
 n_min:mg "min" = none
 c_LARGEST_MOST:∃ t,mg "LARGEST_MOST" = some (.int 2000 t)
 c_LONGEST_HOLD:∃ t,mg "LONGEST_HOLD" = some (.int 99 t)
 c_HIGHEST_TRIES:∃ t,mg "HIGHEST_TRIES" = some (.int 9 t)
 c_HAND_SIGNS:∃ t,mg "HAND_SIGNS" = some (.str "abcdefghijklmnopqrstuvwxyz" t)
 c_LONGEST_HAND:∃ t,mg "LONGEST_HAND" = some (.int 6 t)
 c_HIGHEST_NUMBER:∃ t,mg "HIGHEST_NUMBER" = some (.int 999999 t)
 c_HIGHEST_TIMES:∃ t,mg "HIGHEST_TIMES" = some (.int 9 t)
 x_BadSettings:excIn K A.badSettings=true
 m_BadSettings:mg "BadSettings" = some (.ref A.badSettings)
 x_BadBody:excIn K A.badBody=true
 m_BadBody:mg "BadBody" = some (.ref A.badBody)
 x_BadHand:excIn K A.badHand=true
 m_BadHand:mg "BadHand" = some (.ref A.badHand)
 x_NotHeld:excIn K A.notHeld=true
 m_NotHeld:mg "NotHeld" = some (.ref A.notHeld)
 f_upcoming:NoAttr K A.book "upcoming"
 f_disk:NoAttr K A.queue "disk"
 f_most:NoAttr K A.queue "most"
 f_hold:NoAttr K A.queue "hold"
 f_tries:NoAttr K A.queue "tries"
 f_book:NoAttr K A.queue "book"
 f_first:NoAttr K A.queue "first"
 f_last:NoAttr K A.queue "last"
 f_writing:NoAttr K A.queue "writing"
 f_holders:NoAttr K A.queue "holders"
 f_now:NoAttr K A.queue "now"
 n_isinstance:mg "isinstance" = none
 n_tuple:mg "tuple" = none
 n_enumerate:mg "enumerate" = none
 n_range:mg "range" = none
 n_list:mg "list" = none
 c_LARGEST_DEAL:∃ t,mg "LARGEST_DEAL" = some (.int 9 t)
 x_BadNumber:excIn K A.badNumber=true
 m_BadNumber:mg "BadNumber" = some (.ref A.badNumber)
def segN (n:Int):Str:=("s" : Str)++Str.ofString (toString n)
abbrev s_segment_name:Stmt:=top 46
abbrev s_segment_of:Stmt:=top 47
def numOk (n:Int):Prop:=0<=n/\n<10000000
theorem num_len {n:Int} (h:numOk n):1<=(Str.ofString (toString n)).length/\(Str.ofString (toString n)).length<=7:=⟨PySem.W.KLn.one_le h.1,PyProof.Rows.toString_length_le h.1 (by decide) h.2⟩
theorem idx_tail (m:Nat):Builtin.Str.strSliceIndices (some 1) none 1 (m+1)=(List.range m).map (· + 1):=by
 have e1:Builtin.Str.strSliceIndices (some 1) none 1 (m+1)=sliceRange (max 0 (min 1 ((m+1:Nat):Int))) ((m+1:Nat):Int) 1:=rfl
 have e2:(max 0 (min 1 ((m+1:Nat):Int)):Int)=1:=by omega
 rw[e1,e2]
 unfold sliceRange
 simp only[show (1:Int) > 0 by decide,if_true]
 have e3:(if (1:Int)<((m+1:Nat):Int) then (((m+1:Nat):Int) - 1+1 - 1) / 1 else 0)=(m:Int):=by
  split <;> omega
 rw[e3,Int.toNat_natCast]
 apply List.map_congr_left
 intro k _
 omega
theorem tail_items (c:Nat):∀ cs:List Nat,((List.range cs.length).map (· + 1)).filterMap (fun i=>(c::cs)[i]?)=cs
 | cs=>by
  rw[List.filterMap_map]
  have:((fun i=>(c::cs)[i]?) ∘ fun x=>x+1)=fun i=>cs[i]?:=by
   funext i
   rfl
  rw[this]
  apply List.ext_getElem?
  intro i
  have key:∀ (l:List Nat) (k:Nat),k<=l.length->(List.range k).filterMap (fun i=>l[i]?)=l.take k:=by
   intro l k
   induction k with
   | zero=>intro _; rfl
   | succ k ih=>
    intro hk
    rw[List.range_succ,List.filterMap_append,ih (by omega),List.take_succ,List.getElem?_eq_getElem (by omega)]
    simp [List.getElem?_eq_getElem (show k<l.length by omega)]
  rw[key cs cs.length (Nat.le_refl _),List.take_length]
theorem slice_tail {x:Str} {c:Nat} {cs:List Nat} (h:x.cps.toList=c::cs):Txt.slice x (some 1) none=⟨cs.toArray⟩:=by
 have hl:x.length=cs.length+1:=by
  show x.cps.size=_
  rw[<- Array.length_toList,h]
  rfl
 unfold Txt.slice
 rw[hl,idx_tail,if_neg (by simp)]
 have e:(fun i:Nat=>x.cps[i]?)=fun i=>(c::cs)[i]?:=by
  funext i
  rw[<- Array.getElem?_toList,h]
 rw[e,tail_items]
theorem num_digits {n:Int} (h:0<=n):∀ c∈(Str.ofString (toString n)).cps.toList,48<=c/\c<=57:=by
 obtain⟨m,rfl⟩:=Int.eq_ofNat_of_zero_le h
 intro c hc
 rw[PySem.W.KIN.signs_num]at hc
 obtain⟨ch,hch,e⟩:=List.mem_map.mp hc
 have r:=PyProof.Rows.digit_range (Nat.isDigit_of_mem_toDigits (by decide) (by decide) hch)
 rw[<- e]
 exact r
theorem seg_cps (n:Int):(segN n).cps.toList=115::(Str.ofString (toString n)).cps.toList:=by
 show ((("s" : Str)).cps++(Str.ofString (toString n)).cps).toList=_
 rw[Array.toList_append]
 rfl
theorem seg_slice (n:Int):Txt.slice (segN n) (some 1) none=Str.ofString (toString n):=by
 rw[slice_tail (seg_cps n),Array.toArray_toList]
theorem seg_digit {n:Int} (h:numOk n):Txt.isdigit (Str.ofString (toString n))=true:=by
 have hd:∀ c:Nat,c<58->48<=c->Unicode.isDigit c=true:=by decide +kernel
 unfold Txt.isdigit
 rw[decide_eq_true (show (Str.ofString (toString n)).length > 0 from (num_len h).1),Bool.true_and,<- Array.all_toList,List.all_eq_true]
 intro c hc
 obtain⟨h1,h2⟩:=num_digits h.1 c hc
 exact hd c (by omega) h1
theorem seg_len {n:Int} (h:numOk n):(segN n).length<=8:=by
 have:=(num_len h).2
 unfold segN
 rw[strLen_append]
 show 1+_<=8
 omega
def sp_segment_name:Sp:=fun vs H Q _=>∃ n:Int,vs=[.int n]/\numOk n/\Q (.str (segN n)) H
def sp_segment_of:Sp:=fun vs H Q _=>∃ n:Int,vs=[.str (segN n)]/\numOk n/\Q (.int n) H
section
variable {P:Program} {w:World} {K:PySem.W.Frag} {mg:Str->Option Value} {base:Heap} {A:Ad}
theorem sc_segment_name:FnScope ["segment"] ["segment"] (defScope s_segment_name):=‹0›
theorem ok_segment_name {f:Addr} {fd:FuncData} (F:Fun K "segment_name" "segment_name" s_segment_name f fd):‹9› 1 f fd ["segment"] sp_segment_name:=by
 refine F.okX sc_segment_name (fun vs H Q E h=>?_) (fun cdv A outer s H vs Q E hr h=>?_)
 ·obtain⟨n,rfl,_⟩:=h
  rfl
 ·obtain⟨n,rfl,⟨h0,h1⟩,q⟩:=h
  refine⟨_,@pss_one _ _ _ (@ps_ret _ _ _ _ (@pe_fw _ _ _ _ _ _ _ _ ‹20› ⋯)),?_⟩
  exact⟨_,rfl,n,rfl,h0,Int.lt_of_lt_of_le h1 (by decide),q⟩
theorem sc_segment_of:FnScope ["name","figures"] ["name"] (defScope s_segment_of):=‹0›
theorem ok_segment_of {f:Addr} {fd:FuncData} (F:Fun K "segment_of" "segment_of" s_segment_of f fd) (T:TxtQ K mg A) (c_segment_name:‹2›):‹9› 2 f fd ["name"] sp_segment_of:=by
 refine F.okX sc_segment_of (fun vs H Q E h=>?_) (fun cdv A outer s H vs Q E hr h=>?_)
 ·obtain⟨n,rfl,_⟩:=h
  rfl
 ·obtain⟨n,rfl,hn,q⟩:=h
  refine⟨_,@pss_cons _ _ _ _ _ (@ps_set _ _ (1) _ _ _ _ sc_segment_of.nd (by rfl) (by first | exact Or.inl (by rfl) | exact Or.inr (by rfl)) (@pe_slice _ _ _ _ _ _ _ _ _ _ sl_str ‹20› (@po_some _ _ _ ‹24›) (@po_none _)) ⋯ ⋯) (@pss_cons _ _ _ _ _ (@ps_if _ _ _ _ _ _ _ _ (@PW.pt _ _ _ (@pw_or _ _ _ _ _ _ _ (@pt_not _ _ _ _ (@pt_val _ _ _ (@pe_bm0K _ K _ _ _ _ _ _ _ _ PySem.F.plainAttrs_str PySem.F.slot_str_isdigit PySem.F.type_str_isdigit mt_isdigit ‹21› ⋯ ⋯ ⋯) ⋯)) (@pw_or1 _ _ _ _ (@pt_cmpR _ _ _ _ _ _ _ _ op_ne ‹20› (@pe_fn _ _ _ _ _ _ _ _ _ _ _ c_segment_name ‹15› passN (@pa_Call _ _ _ _ _ _ _ _ (@pe_callTy _ _ _ _ _ _ _ _ _ call_intT (by rfl) T.n_int bt_int ‹40› ⋯ ⋯ ⋯ ⋯) (@pa_nil _)) ⋯ ⋯ ⋯ ⋯) (nomark _))))) ‹22› (@pss_nil _)) (@pss_one _ _ _ (@ps_ret _ _ _ _ (@pe_callTy _ _ _ _ _ _ _ _ _ call_intT (by rfl) T.n_int bt_int ‹40› ⋯ ⋯ ⋯ ⋯)))),?_⟩
  have hl:=num_len hn
  have hr1:=PySem.W.KIN.num_reads hn.1 (Int.lt_of_lt_of_le hn.2 (by decide))
  refine⟨_,rfl,_,rfl,_,rfl,Nat.le_trans (seg_len hn) (by decide),?_⟩
  rw[seg_slice]
  refine⟨_,rfl,rfl,_,rfl,rfl,_,rfl,?_⟩
  rw[seg_digit hn]
  refine iteF ?_
  refine⟨_,rfl,_,rfl,_,n,rfl,hr1,Nat.le_trans hl.2 (by decide),n,rfl,hn,rfl,_,rfl,?_⟩
  rw[dstr_eq rfl]
  exact iteF (go_next rfl ⟨_,rfl,_,n,rfl,hr1,Nat.le_trans hl.2 (by decide),q⟩)
end
abbrev s_segments_on:Stmt:=top 48
def gapless (ms:List Int):Prop:=ms=[]\/ms.getLastD 0 - ms.headD 0+1=(ms.length:Int)
def sp_segments_on (A:Ad):Sp:=fun vs H Q E=>∃ (dk df:Addr) (kvs:List (Key × V)) (D:Dk) (ns:List Int),vs=[.ref dk]/\DiskAt A.disk H dk df kvs D/\D.fs.map (·.1)=ns.map segN/\(∀ n∈ns,numOk n)/\ns.length<64/\
 (∀ ms,List.Perm ms ns->ms.Pairwise (· <= ·)->gapless ms->∀ p H',Same H H'->H p=none->H' p=some (.lst (ms.map V.int))->Q (.ref p) H')/\(∀ ms,List.Perm ms ns->ms.Pairwise (· <= ·)->¬ gapless ms->∀ H',Same H H'->E (.ref A.broken) none H')
theorem perm_pre {α β : Type} (f:α->β):∀ {ns:List α} {ts:List β},List.Perm ts (ns.map f)->∃ ms,List.Perm ms ns/\ts=ms.map f:=by
 intro ns
 induction ns with
 | nil=>
  intro ts h
  exact⟨[],List.Perm.refl _,List.Perm.eq_nil h⟩
 | cons n ns ih=>
  intro ts h
  have hm:f n∈ts:=h.mem_iff.mpr List.mem_cons_self
  obtain⟨a,b,rfl⟩:=List.append_of_mem hm
  have h1:List.Perm (f n::(a++b)) (f n::ns.map f):=List.perm_middle.symm.trans h
  obtain⟨ms,p,e⟩:=ih (List.perm_cons (f n) |>.mp h1)
  have el:ms=ms.take a.length++ms.drop a.length:=(List.take_append_drop _ _).symm
  have ea:a=(ms.take a.length).map f/\b=(ms.drop a.length).map f:=by
   have e2:=e
   rw[el,List.map_append]at e2
   refine List.append_inj e2 ?_
   rw[List.length_map,List.length_take]
   have:=congrArg List.length e
   rw[List.length_append,List.length_map]at this
   omega
  refine⟨ms.take a.length++n::ms.drop a.length,?_,?_⟩
  ·refine List.perm_middle.trans ?_
   rw[List.take_append_drop]
   exact p.cons n
  ·rw[List.map_append,List.map_cons,<- ea.1,<- ea.2]
theorem last_at {ms:List Int} (h:ms≠[]):atI (ms.map V.int) (-1)=some (.int (ms.getLastD 0)):=by
 obtain⟨l,x,rfl⟩:∃ l x,ms=l++[x]:=⟨ms.dropLast,ms.getLast h,(List.dropLast_concat_getLast h).symm⟩
 rw[List.map_append,List.getLastD_concat]
 exact atI_last _ _
section
variable {P:Program} {w:World} {K:PySem.W.Frag} {mg:Str->Option Value} {base:Heap} {A:Ad}
theorem sc_segments_on:FnScope ["disk","segments"] ["disk"] (defScope s_segments_on):=‹0›
set_option maxHeartbeats 1000000 in
theorem ok_segments_on {f:Addr} {fd:FuncData} (F:Fun K "segments_on" "segments_on" s_segments_on f fd) (T:TxtQ K mg A) (c_segment_of:‹10› "segment_of" 2 ["name"] sp_segment_of) (mD_names:‹11› A.disk "names" 1 ["self"] (sp_names A.disk)):‹9› 3 f fd ["disk"] (sp_segments_on A):=by
 refine F.okX sc_segments_on (fun vs H Q E h=>?_) (fun cdv A' outer s H vs Q E hr h=>?_)
 ·obtain⟨dk,df,kvs,D,ns,rfl,_⟩:=h
  rfl
 ·obtain⟨dk,df,kvs,D,ns,rfl,hD,hn,hok,hl,q,qe⟩:=h
  refine⟨_,@pss_cons _ _ _ _ _ (@ps_set _ _ (1) _ _ _ _ sc_segments_on.nd (by rfl) (by first | exact Or.inl (by rfl) | exact Or.inr (by rfl)) (@pe_callB _ _ _ _ _ _ _ _ _ call_sortedLs (by rfl) T.n_sorted bt_sorted (@pa_ListComp _ _ _ _ _ _ _ _ (@pe_comp _ _ _ _ _ _ _ _ _ _ _ ["name"] [] (by rfl) (@pi_listK _ K _ _ _ (@pe_me0 _ _ _ _ _ _ _ _ _ _ _ _ mD_names T.cl_Disk ‹15› passN ‹20› ⋯) ⋯) (fun C s2 H2 ex=>(@pg_name _ _ (0) _ (show List.Nodup (["name"]:List Str) by decide +kernel) (by rfl) (Or.inl (by rfl)) ⋯)) ‹31› (fun C s2 H2 ex=>(@pe_fn _ _ _ _ _ _ _ _ _ _ _ c_segment_of ‹15› passN ‹37› ⋯ ⋯ ⋯ ⋯)) ⋯ ⋯ ⋯ ⋯) (@pa_nil _)) ⋯ ⋯ ⋯ ⋯) ⋯ ⋯) (@pss_cons _ _ _ _ _ (@ps_if _ _ _ _ _ _ _ _ (@PW.pt _ _ _ (@pw_and _ _ _ _ _ _ _ (@pt_listK _ K _ _ ‹21› ⋯ ⋯) (@pw_and1 _ _ _ _ (@pt_cmpR _ _ _ _ _ _ _ _ op_ne (@pe_op _ _ _ _ _ _ _ _ op_add (@pe_op _ _ _ _ _ _ _ _ op_sub ‹48› (@pe_ix _ _ _ _ _ _ _ (ix_listK K) ‹21› ‹24› (fun _ _=>rfl))) ‹24›) ‹33› (nomark _))))) ‹22› (@pss_nil _)) (@pss_one _ _ _ (@ps_ret _ _ _ _ ‹21›))),?_⟩
  obtain⟨dx,h1⟩:=hD.self
  have ll:=congrArg List.length hn
  rw[List.length_map,List.length_map]at ll
  refine⟨_,rfl,dk,dx,_,rfl,h1,rfl,dk,df,kvs,D,rfl,hD,by omega,fun p1 ts perm1 so1 H1 S1 g1 hp1=>?_⟩
  rw[hn]at perm1
  obtain⟨ks,permk,rfl⟩:=perm_pre segN perm1
  have lk:=permk.length_eq
  refine⟨p1,rfl,⟨_,SqL.of g1⟩,?_⟩
  refine comp_src (src_list (K:=K) (SqL.of g1)) (by rw[List.length_map,List.length_map,lk]; exact Nat.le_trans (show _<=1000 by omega) (by decide)) (fun i y _=>∃ n,ks[i]? = some n/\y = .int n) (fun _ _ _ _ _ h=>h) (fun σ=>∃ z,σ = [z]) ?z0 ?_ ?_
  case z0=>exact⟨none,rfl⟩
  ·intro i x σc H3 hi hσ s3 hx Q' hQ'
   obtain⟨z,rfl⟩:=hσ
   rw[List.getElem?_map,List.getElem?_map]at hx
   cases e:ks[i]? with
   | none=>rw[e]at hx; cases hx
   | some n=>
    rw[e]at hx
    cases hx
    exact⟨_,rfl,n,rfl,hok n (permk.mem_iff.mp (List.mem_of_getElem? e)),hQ' _ _ _ ⟨_,rfl⟩ (Same.refl _) ⟨n,e,rfl⟩⟩
  intro D2 ys H2 hD2 S2 gD hlen hR
  have ey:ys=ks.map V.int:=by
   apply List.ext_getElem?
   intro j
   cases ej:ys[j]? with
   | none=>
    have h1:=List.getElem?_eq_none_iff.mp ej
    rw[List.getElem?_eq_none_iff.mpr]
    rw[List.length_map]
    rw[List.length_map,List.length_map]at hlen
    omega
   | some y=>
    obtain⟨n,e1,rfl⟩:=hR j y ej
    rw[List.getElem?_map,e1]
    rfl
  subst ey
  refine⟨D2,ks,rfl,gD,by omega,fun p ms permm pwm hp=>?_⟩
  have T3:=same_upd (o:=.lst (ms.map V.int)) hp
  have t3:upd H2 p (.lst (ms.map V.int)) p=some (.lst (ms.map V.int)):=upd_same
  generalize upd H2 p (.lst (ms.map V.int))=H3 at T3 t3 ⊢
  have perm:=permm.trans permk
  have S03:=S1.trans (S2.trans T3)
  have hp0:H p=none:=by
   cases e:H p with
   | none=>rfl
   | some o=>exact absurd ((S1.trans S2) _ _ e) (by rw[hp]; intro z; cases z)
  refine⟨_,rfl,p,_,rfl,SqL.of t3,?_⟩
  dsimp only
  by_cases hm:ms=[]
  ·subst hm
   refine iteF (iteF (go_next rfl ?_))
   exact⟨_,rfl,q _ perm pwm (.inl rfl) p H3 S03 hp0 t3⟩
  obtain⟨x,ms',em⟩:=List.exists_cons_of_ne_nil hm
  have hem:(!(ms.map V.int).isEmpty)=true:=by rw[em]; rfl
  rw[hem]
  refine iteT ?_
  refine⟨_,rfl,1,rfl,p,_,_,.int (ms.getLastD 0),rfl,rfl,SqL.of t3,last_at hm,_,rfl,p,_,_,.int (ms.headD 0),rfl,rfl,SqL.of t3,atI_pos (by decide) (by rw[em]; rfl),_,_,rfl,rfl,_,_,rfl,rfl,_,rfl,p,_,rfl,.inl (SqL.of t3),rfl,_,rfl,?_⟩
  rw[List.length_map]
  by_cases hg:ms.getLastD 0 - ms.headD 0+1=(ms.length:Int)
  ·rw[decide_eq_true (show V.int (ms.getLastD 0 - ms.headD 0+1)=V.int (ms.length:Int) by rw[hg])]
   refine iteF (go_next rfl ?_)
   exact⟨_,rfl,q _ perm pwm (.inr hg) p H3 S03 hp0 t3⟩
  ·rw[dint_ne hg]
   refine iteT ?_
   exact⟨(by show 1<=sizeLine; decide),qe _ perm pwm (fun z=>z.elim hm hg) H3 S03⟩
end
end Qh
end
section
namespace Qh
open PySem L2
abbrev s_without:Stmt:=top 49
def cutParts (rs:List Rw):List Rw:=(rs.reverse.dropWhile fun r=>decide (r.1=("part" : Str))).reverse
theorem cut_eq:∀ (rs:List Rw) (k:Nat),k<=rs.length->(∀ j r,k<=j->rs[j]? = some r->r.1 = "part")->(∀ r,k≠0->rs[k - 1]? = some r->r.1 ≠ "part")->rs.take k=cutParts rs:=by
 intro rs k hk h1 h2
 have e:rs.reverse=(rs.drop k).reverse++(rs.take k).reverse:=by
  rw[<- List.reverse_append,List.take_append_drop]
 have hall:∀ r∈(rs.drop k).reverse,decide (r.1 = "part")=true:=by
  intro r hr
  rw[List.mem_reverse]at hr
  obtain⟨j,hj⟩:=List.mem_iff_getElem?.mp hr
  rw[List.getElem?_drop]at hj
  exact decide_eq_true (h1 _ r (Nat.le_add_right _ _) hj)
 unfold cutParts
 rw[e,List.dropWhile_append_of_pos hall]
 have:(rs.take k).reverse.dropWhile (fun r=>decide (r.1=("part" : Str)))=(rs.take k).reverse:=by
  by_cases hk0:k=0
  ·subst hk0; rfl
  ·have hlt:k - 1<rs.length:=by omega
   have et:rs.take k=rs.take (k - 1)++[rs[k - 1]]:=by
    have h:=List.take_succ (l:=rs) (i:=k - 1)
    rw[List.getElem?_eq_getElem hlt,show k - 1+1=k by omega]at h
    exact h
   rw[et,List.reverse_append,List.reverse_singleton,List.singleton_append,List.dropWhile_cons_of_neg]
   rw[decide_eq_true_eq]
   exact h2 _ hk0 (List.getElem?_eq_getElem hlt)
 rw[this,List.reverse_reverse]
def sp_without:Sp:=fun vs H Q _=>∃ (a:Addr) (rs:List Rw),vs=[.ref a]/\Den H (.list (rs.map rowR)) (.ref a)/\rs.length<=100000/\∀ p H',Same H H'->H p=none->Den H' (.list ((cutParts rs).map rowR)) (.ref p)->Q (.ref p) H'
theorem dens_take' {H:Hp}:∀ {ds:List PyData} {xs:List V} (k:Nat),Dens H ds xs->Dens H (ds.take k) (xs.take k)
 | _,_,0,_=>by simp [Dens]
 | [],xs,k+1,h=>by
  simp only[Dens]at h
  subst h
  simp [Dens]
 | d::ds,xs,k+1,h=>by
  simp only[Dens]at h
  obtain⟨y,ys,rfl,h1,h2⟩:=h
  rw[List.take_succ_cons,List.take_succ_cons]
  simp only[Dens]
  exact⟨_,_,rfl,h1,dens_take' k h2⟩
section
variable {P:Program} {w:World} {K:PySem.W.Frag} {mg:Str->Option Value} {base:Heap} {A:Ad}
theorem sc_without_last_parts:FnScope ["rows","many"] ["rows"] (defScope s_without):=‹0›
theorem ok_without {f:Addr} {fd:FuncData} (F:Fun K "without_last_parts" "without_last_parts" s_without f fd) (T:TxtQ K mg A):‹9› 1 f fd ["rows"] sp_without:=by
 refine F.okX sc_without_last_parts (fun vs H Q E h=>?_) (fun cdv A' outer s H vs Q E hr h=>?_)
 ·obtain⟨a,rs,rfl,_⟩:=h
  rfl
 ·obtain⟨a,rs,rfl,hd,hl,q⟩:=h
  refine⟨_,@pss_cons _ _ _ _ _ (@ps_set _ _ (1) _ _ _ _ sc_without_last_parts.nd (by rfl) (by first | exact Or.inl (by rfl) | exact Or.inr (by rfl)) ‹34› ⋯ ⋯) (@pss_cons _ _ _ _ _ (@ps_while _ _ _ _ _ _ (ownB own_cx) (@PW.pt _ _ _ (@pw_and _ _ _ _ _ _ _ (@pt_cmpR _ _ _ _ _ _ _ _ op_gt ‹21› ‹24› (nomark _)) (@pw_and1 _ _ _ _ (@pt_cmpR _ _ _ _ _ _ _ _ op_eq (@pe_ix _ _ _ _ _ _ _ (ix_tupK K) (@pe_ix _ _ _ _ _ _ _ (ix_listK K) ‹20› (@pe_op _ _ _ _ _ _ _ _ op_sub ‹21› ‹24›) (fun _ _=>rfl)) ‹24› (fun _ _=>rfl)) (@pe_str _ _ _ _) (nomark _))))) (@pss_one _ _ _ (@ps_aug _ _ (1) _ _ _ _ _ _ sc_without_last_parts.nd (by rfl) (by first | exact Or.inl (by rfl) | exact Or.inr (by rfl)) ‹24› ip_sub ⋯))) (@pss_one _ _ _ (@ps_ret _ _ _ _ (@pe_slice _ _ _ _ _ _ _ _ _ _ (sl_listK K) ‹20› (@po_none _) (@po_some _ _ _ ‹21›))))),?_⟩
  simp only[Den]at hd
  obtain⟨_,xs,e,ha,hds⟩:=hd
  cases e
  have hx:=hds.length
  rw[List.length_map]at hx
  refine⟨_,rfl,a,_,rfl,.inl (SqL.of ha),?_⟩
  refine⟨fun m σ H3=>H3=H/\m<=rs.length/\σ = [some (.ref a),some (.int (m:Int))]/\(∀ j r,m<=j->rs[j]? = some r->r.1 = "part"),⟨rs.length,rfl,Nat.le_refl _,by rw[hx]; rfl,fun j r hj e=>absurd (List.getElem?_eq_some_iff.mp e).1 (by omega)⟩,?_⟩
  rintro m σ H3 ⟨rfl,hm,rfl,hp⟩
  have fin:(∀ r,m≠0->rs[m - 1]? = some r->r.1 ≠ "part")->tRet (tSl (rSlL K) (tVar 0) tNoPart (tPart (tVar 1))) ({ nx:=fun x H'=>Q V.non H',rt:=Q }:Ends) [some (.ref a),some (.int (m:Int))] H3:=by
   intro hn
   have ec:=cut_eq rs m hm hp hn
   refine⟨_,rfl,_,rfl,_,rfl,a,xs,rfl,SqL.of ha,fun p hp'=>?_⟩
   have S:=same_upd (o:=.lst (cutV xs none (some (m:Int)))) hp'
   refine q p _ S hp' ?_
   rw[cut_to (by omega)]at S ⊢
   simp only[Den]
   refine⟨p,_,rfl,upd_same,?_⟩
   rw[<- ec,List.map_take]
   exact(dens_take' m hds).same S
  refine⟨_,rfl,_,_,rfl,rfl,_,rfl,?_⟩
  show if decide ((0:Int)<(m:Int))=true then _ else _
  by_cases h0:m=0
  ·rw[if_neg (by rw[decide_eq_true_eq]; omega)]
   exact iteF (fin (fun r z=>absurd h0 z))
  rw[if_pos (decide_eq_true (by omega))]
  have hlt:m - 1<rs.length:=by omega
  have er:rs[m - 1]? = some rs[m - 1]:=List.getElem?_eq_getElem hlt
  have exm:xs[m - 1]? = some xs[m - 1]:=List.getElem?_eq_getElem (by omega)
  obtain⟨d,hdm,dn⟩:=hds.get exm
  rw[List.getElem?_map,er]at hdm
  cases (Option.some.inj hdm:rowR rs[m - 1]=d)
  obtain⟨t,b,ev,gt,gb⟩:=row_form dn
  rw[ev]at exm
  refine⟨_,rfl,_,rfl,_,_,rfl,rfl,a,_,_,.ref t,rfl,rfl,SqL.of ha,?_,t,_,_,.str rs[m - 1].1,rfl,rfl,SqT.of gt,atI_pos (by decide) rfl,rfl,_,rfl,?_⟩
  ·have:((m:Int) - 1)=((m - 1:Nat):Int):=by omega
   rw[this]
   exact atI_nat exm
  by_cases hk:rs[m - 1].1 = "part"
  ·rw[dstr_eq hk]
   refine iteT ⟨fun σ' H'=>∃ m',m'<m/\H'=H3/\m'<=rs.length/\σ'=[some (.ref a),some (.int (m':Int))]/\(∀ j r,m'<=j->rs[j]? = some r->r.1 = "part"),fun _ _ h=>h,?_⟩
   refine⟨_,rfl,_,_,rfl,rfl,?_⟩
   refine⟨m - 1,by omega,rfl,by omega,?_,fun j r hj e=>?_⟩
   ·have:((m:Int) - 1)=((m - 1:Nat):Int):=by omega
    rw[<- this]
    rfl
   ·by_cases hj':j=m - 1
    ·rw[hj',er]at e
     rw[<- Option.some.inj e]
     exact hk
    ·exact hp j r (by omega) e
  ·rw[dstr_ne hk]
   refine iteF (fin fun r _ e=>?_)
   rw[er]at e
   rw[<- Option.some.inj e]
   exact hk
end
end Qh
end
section
namespace Qh
open PySem L2
abbrev s_rows_of:Stmt:=top 50
theorem seg_chars {n:Int} (h:numOk n):∀ c∈(segN n).cps.toList,c=115\/(48<=c/\c<=57):=by
 intro c hc
 rw[seg_cps]at hc
 rcases List.mem_cons.mp hc with z | z
 ·exact .inl z
 ·exact .inr (num_digits h.1 c z)
theorem seg_word {n:Int} (h:numOk n):wordD signs36 8 (.str (segN n))=true:=by
 have h1:1<=(segN n).length:=by
  have:=(num_len h).1
  unfold segN
  rw[strLen_append]
  omega
 have h2:=seg_len h
 have hd:∀ c:Nat,c<58->48<=c->inS signs36 c=true:=by decide +kernel
 have hs:inS signs36 115=true:=by decide +kernel
 show ((decide (1<=((segN n).length:Int)) && decide (((segN n).length:Int)<=8)) && (segN n).cps.toList.all (inS signs36))=true
 rw[decide_eq_true (by omega),decide_eq_true (by omega),Bool.true_and,Bool.true_and,List.all_eq_true]
 intro c hc
 rcases seg_chars h c hc with z | ⟨z1,z2⟩
 ·rw[z]; exact hs
 ·exact hd c (by omega) z1
theorem seg_ok {n:Int} (h:numOk n):nameOk (.str (segN n)):=by
 intro x e
 injection e with e
 subst e
 refine⟨Nat.le_trans (seg_len h) (by decide),?_⟩
 unfold ascii
 rw[<- Array.all_toList,List.all_eq_true]
 intro c hc
 rcases seg_chars h c hc with z | ⟨z1,z2⟩ <;> exact decide_eq_true (by omega)
theorem read_all:∀ {f:Nat} {ns:List Int} {ds:List PyData} {k:Nat},readL f ns=some (ds,k)->ds.all isRowD=true/\7 * ds.length<=ns.length
 | 0,_,_,_,h=>by cases h
 | f+1,ns,ds,k,h=>by
  rw[readL_step]at h
  cases e:endL ns with
  | none=>
   rw[e]at h
   cases h
   exact⟨rfl,Nat.zero_le _⟩
  | some m=>
   rw[e]at h
   dsimp only at h
   cases e2:rowOf (ns.take m) with
   | none=>rw[e2]at h; cases h
   | some d=>
    rw[e2]at h
    dsimp only at h
    rw[Option.map_eq_some_iff]at h
    obtain⟨⟨ds',k'⟩,h1,h2⟩:=h
    cases h2
    obtain⟨i1,i2⟩:=read_all h1
    obtain⟨m7,mle⟩:=endL_le e
    rw[List.length_drop]at i2
    have hd:isRowD d=true:=by
     unfold rowOf at e2
     split at e2
     ·split at e2
      ·dsimp only at e2
       split at e2
       ·cases e2; assumption
       ·cases e2
      ·cases e2
     ·cases e2
    rw[List.all_cons,hd,List.length_cons]
    exact⟨i1,by show 7 * (ds'.length+1)<=ns.length; omega⟩
def segRows (bs:List Int) (last:Bool) (rs:List Rw):Option (List Rw):=
 match readL (bs.length+1) bs with
 | none=>none
 | some (_,k)=>if last=false/\(0<k\/(cutParts rs).length<rs.length) then none else if last=false/\cutParts rs=[] then none else if cutParts rs≠[]/\((cutParts rs).headD ("from",0,[])).1 ≠ "from" then none else some (cutParts rs)
def sp_rows_of (A:Ad):Sp:=fun vs H Q E=>∃ (dk df:Addr) (kvs:List (Key × V)) (D:Dk) (seg last:Int) (bs:List Int),vs=[.ref dk,.int seg,.int last]/\DiskAt A.disk H dk df kvs D/\numOk seg/\lookF D.fs (segN seg)=some bs/\(∀ b∈bs,0<=b/\b<=255)/\bs.length<=100000/\
 (readL (bs.length+1) bs=none->∀ H',Same H H'->E (.ref A.broken) none H')/\
 (∀ rs k,readL (bs.length+1) bs=some (rs.map rowR,k)->(∀ r∈rs,isRowD (rowR r)=true)->(segRows bs (decide (seg=last)) rs=none->∀ H',Same H H'->E (.ref A.broken) none H')/\(∀ rs',segRows bs (decide (seg=last)) rs=some rs'->∀ p H',Same H H'->H p=none->Den H' (.list (rs'.map rowR)) (.ref p)->Q (.ref p) H'))
section
variable {P:Program} {w:World} {K:PySem.W.Frag} {mg:Str->Option Value} {base:Heap} {A:Ad}
theorem sc_rows_of:FnScope ["disk","segment","last","found","rows"] ["disk","segment","last"] (defScope s_rows_of):=‹0›
set_option maxHeartbeats 1000000 in
theorem ok_rows_of {f:Addr} {fd:FuncData} (F:Fun K "rows_of" "rows_of" s_rows_of f fd) (T:TxtQ K mg A) (c_segment_name:‹2›) (c_rows_in:‹10› "rows_in" 5 ["some"] (sp_rows_in A.badRow A.broken)) (c_without_last_parts:‹10› "without_last_parts" 1 ["rows"] sp_without) (mD_read:‹11› A.disk "read" 4 ["self","name"] (sp_read A.disk A.badName A.missing)):‹9› 6 f fd ["disk","segment","last"] (sp_rows_of A):=by
 refine F.okX sc_rows_of (fun vs H Q E h=>?_) (fun cdv A' outer s H vs Q E hr h=>?_)
 ·obtain⟨dk,df,kvs,D,seg,last,bs,rfl,_⟩:=h
  rfl
 ·obtain⟨dk,df,kvs,D,seg,last,bs,rfl,hD,hs,hb,hby,hbl,qb,q⟩:=h
  refine⟨_,@pss_cons _ _ _ _ _ (@ps_set _ _ (3) _ _ _ _ sc_rows_of.nd (by rfl) (by first | exact Or.inl (by rfl) | exact Or.inr (by rfl)) (@pe_fn _ _ _ _ _ _ _ _ _ _ _ c_rows_in ‹15› passS (@pa_Call _ _ _ _ _ _ _ _ (@pe_me _ _ _ _ _ _ _ _ _ _ _ _ _ _ _ mD_read T.cl_Disk ‹15› passS ‹20› (@pa_Call _ _ _ _ _ _ _ _ (@pe_fn _ _ _ _ _ _ _ _ _ _ _ c_segment_name ‹15› passN ‹40› ⋯ ⋯ ⋯ ⋯) (@pa_nil _)) ⋯ ⋯ ⋯) (@pa_nil _)) ⋯ ⋯ ⋯ ⋯) ⋯ ⋯) (@pss_cons _ _ _ _ _ (@ps_set _ _ (4) _ _ _ _ sc_rows_of.nd (by rfl) (by first | exact Or.inl (by rfl) | exact Or.inr (by rfl)) (@pe_fn _ _ _ _ _ _ _ _ _ _ _ c_without_last_parts ‹15› passN (@pa_Subscript _ _ _ _ _ _ _ ‹39› (@pa_nil _)) ⋯ ⋯ ⋯ ⋯) ⋯ ⋯) (@pss_cons _ _ _ _ _ (@ps_if _ _ _ _ _ _ _ _ (@PW.pt _ _ _ (@pw_and _ _ _ _ _ _ _ (@pt_cmpR _ _ _ _ _ _ _ _ op_ne ‹21› ‹25› (nomark _)) (@pw_and1 _ _ _ _ (@PW.pt _ _ _ (@pw_or _ _ _ _ _ _ _ (@pt_cmpR _ _ _ _ _ _ _ _ op_gt ‹39› ‹24› (nomark _)) (@pw_or1 _ _ _ _ (@pt_cmpR _ _ _ _ _ _ _ _ op_lt (@pe_callB _ _ _ _ _ _ _ _ _ (call_lenK K) (by rfl) T.n_len bt_len (@pa_Name _ _ _ _ _ _ ‹28› (@pa_nil _)) ⋯ ⋯ ⋯ ⋯) (@pe_callB _ _ _ _ _ _ _ _ _ (call_lenK K) (by rfl) T.n_len bt_len (@pa_Subscript _ _ _ _ _ _ _ ‹39› (@pa_nil _)) ⋯ ⋯ ⋯ ⋯) (nomark _)))))))) ‹22› (@pss_nil _)) (@pss_cons _ _ _ _ _ (@ps_if _ _ _ _ _ _ _ _ (@PW.pt _ _ _ (@pw_and _ _ _ _ _ _ _ (@pt_cmpR _ _ _ _ _ _ _ _ op_ne ‹21› ‹25› (nomark _)) (@pw_and1 _ _ _ _ (@pt_not _ _ _ _ (@pt_listK _ K _ _ ‹28› ⋯ ⋯))))) ‹22› (@pss_nil _)) (@pss_cons _ _ _ _ _ (@ps_if _ _ _ _ _ _ _ _ (@PW.pt _ _ _ (@pw_and _ _ _ _ _ _ _ (@pt_listK _ K _ _ ‹28› ⋯ ⋯) (@pw_and1 _ _ _ _ (@pt_cmpR _ _ _ _ _ _ _ _ op_ne (@pe_ix _ _ _ _ _ _ _ (ix_tupK K) (@pe_ix _ _ _ _ _ _ _ (ix_listK K) ‹28› ‹24› (fun _ _=>rfl)) ‹24› (fun _ _=>rfl)) (@pe_str _ _ _ _) (nomark _))))) ‹22› (@pss_nil _)) (@pss_one _ _ _ (@ps_ret _ _ _ _ ‹28›)))))),?_⟩
  obtain⟨dx,h1⟩:=hD.self
  have hw:=seg_word hs
  refine⟨_,rfl,dk,dx,_,rfl,h1,rfl,_,rfl,seg,rfl,hs,dk,df,kvs,D,.str (segN seg),.str (segN seg),rfl,hD,by simp only[Den],seg_ok hs,(fun z=>by rw[hw]at z; cases z),fun n e _=>?_⟩
  injection e with e
  subst e
  refine⟨(fun z=>by rw[hb]at z; cases z),fun bs' e p1 H1 S1 g1=>?_⟩
  rw[hb]at e
  cases e
  have isb:isByt (.tuple (bs.map .int))=true:=byt_all hby
  refine⟨.ref p1,.tuple (bs.map .int),rfl,by simp only[Den]; exact⟨p1,_,rfl,g1,dens_ints.mpr rfl⟩,(fun bs' e=>?_),(fun z=>by rw[isb]at z; cases z),fun _=>?_⟩
  ·injection e with e
   rw[<- e,List.length_map]
   exact Nat.le_trans hbl (by decide)
  rw[ints_int]
  refine⟨fun ds k er p2 H2 S2 d2=>?_,fun er H2 S2=>qb er H2 (S1.trans S2)⟩
  obtain⟨rall,rlen⟩:=read_all er
  obtain⟨rs,rfl,hrs⟩:=rows_of rall
  rw[List.length_map]at rlen
  obtain⟨qn,qs⟩:=q rs k er hrs
  have S02:=S1.trans S2
  have d2':=d2
  simp only[Den,Dens]at d2'
  obtain⟨_,_,e1,gf,_,_,rfl,⟨pL,ys,rfl,gL,dL⟩,_,_,rfl,rfl,rfl⟩:=d2'
  cases e1
  have lL:=dL.length
  rw[List.length_map]at lL
  refine⟨_,rfl,p2,_,_,.ref pL,rfl,rfl,SqT.of gf,atI_pos (by decide) rfl,pL,rs,rfl,by simp only[Den]; exact⟨pL,ys,rfl,gL,dL⟩,by omega,fun p3 H3 S3 hp3 d3=>?_⟩
  have S03:=S02.trans S3
  have h03:H p3=none:=S02.free hp3
  simp only[Den]at d3
  obtain⟨_,zs,e3,g3,dz⟩:=d3
  cases e3
  have lz:=dz.length
  rw[List.length_map]at lz
  unfold segRows at qn qs
  rw[er]at qn qs
  dsimp only at qn qs
  have gf3:=S3 _ _ gf
  have gL3:=S3 _ _ gL
  have one:(1:Nat)<=sizeLine:=by decide
  have fin:(cutParts rs≠[]/\((cutParts rs).headD ("from",0,[])).1 ≠ "from"->E (.ref A.broken) none H3)->(¬ (cutParts rs≠[]/\((cutParts rs).headD ("from",0,[])).1 ≠ "from")->Q (.ref p3) H3)->tSeq (tIfS (tAnd (tLT K (tVar 4)) (tTest (tOp rNe (tOp (rIxT K) (tOp (rIxL K) (tVar 4) (tC (V.int 0))) (tC (V.int 0))) (tC (V.str "from"))))) (tRaise A.broken (fun c H=>E c none H) (tCons (tC (V.str "a segment begins with another row than from")) tNil)) tNext) (tRet (tVar 4)) ({ nx:=fun x H'=>Q V.non H',rt:=Q }:Ends) [some (.ref dk),some (.int seg),some (.int last),some (.ref p2),some (.ref p3)] H3:=by
   intro f1 f2
   refine⟨_,rfl,p3,_,rfl,SqL.of g3,?_⟩
   dsimp only
   cases hc:cutParts rs with
   | nil=>
    rw[hc]at dz lz
    have:zs=[]:=List.length_eq_zero_iff.mp lz
    subst this
    refine iteF (iteF (go_next rfl ?_))
    exact⟨_,rfl,f2 (fun z=>z.1 hc)⟩
   | cons r rs'=>
    rw[hc]at dz lz f1 f2
    cases zs with
    | nil=>simp at lz
    | cons z zs=>
    refine iteT ?_
    rw[List.map_cons]at dz
    simp only[Dens]at dz
    obtain⟨_,_,ez,dr,_⟩:=dz
    cases ez
    obtain⟨t,b,rfl,gt,gb⟩:=row_form dr
    refine⟨_,rfl,p3,_,_,.ref t,rfl,rfl,SqL.of g3,atI_pos (by decide) rfl,t,_,_,.str r.1,rfl,rfl,SqT.of gt,atI_pos (by decide) rfl,rfl,_,rfl,?_⟩
    by_cases hk:r.1 = "from"
    ·rw[dstr_eq hk]
     refine iteF (go_next rfl ?_)
     exact⟨_,rfl,f2 (fun z=>z.2 hk)⟩
    ·rw[dstr_ne hk]
     exact iteT ⟨one,f1 ⟨by simp,hk⟩⟩
  refine⟨_,rfl,_,rfl,rfl,_,rfl,?_⟩
  dsimp only
  by_cases hsl:seg=last
  ·rw[decide_eq_true hsl]at qn qs
   rw[decide_eq_true (show V.int seg=V.int last by rw[hsl])]
   refine iteF (iteF (go_next rfl ?_))
   refine⟨_,rfl,_,rfl,rfl,_,rfl,?_⟩
   rw[decide_eq_true (show V.int seg=V.int last by rw[hsl])]
   refine iteF (iteF (go_next rfl ?_))
   rw[if_neg (fun z=>by cases z.1),if_neg (fun z=>by cases z.1)]at qn qs
   refine fin (fun z=>qn (if_pos z) H3 S03) (fun z=>qs _ (if_neg z) p3 H3 S03 h03 ?_)
   simp only[Den]
   exact⟨p3,zs,rfl,g3,dz⟩
  rw[decide_eq_false hsl]at qn qs
  rw[dint_ne hsl]
  refine iteT ?_
  refine⟨_,rfl,p2,_,_,.int (k:Int),rfl,rfl,SqT.of gf3,atI_pos (by decide) rfl,_,_,rfl,rfl,_,rfl,?_⟩
  show if decide ((0:Int)<(k:Int))=true then _ else _
  by_cases hk:0<k
  ·rw[if_pos (decide_eq_true (by omega))]
   rw[if_pos ⟨rfl,.inl hk⟩]at qn
   exact iteT ⟨one,qn rfl H3 S03⟩
  rw[if_neg (by rw[decide_eq_true_eq]; omega)]
  refine⟨_,rfl,p3,_,rfl,.inl (SqL.of g3),_,rfl,p2,_,_,.ref pL,rfl,rfl,SqT.of gf3,atI_pos (by decide) rfl,pL,_,rfl,.inl (SqL.of gL3),_,_,rfl,rfl,_,rfl,?_⟩
  rw[lz,lL]
  by_cases hc:(cutParts rs).length<rs.length
  ·rw[if_pos ⟨rfl,.inr hc⟩]at qn
   rw[decide_eq_true (show ((cutParts rs).length:Int)<(rs.length:Int) by omega)]
   exact iteT ⟨one,qn rfl H3 S03⟩
  rw[if_neg (fun z=>z.2.elim hk hc)]at qn qs
  rw[decide_eq_false (show ¬ ((cutParts rs).length:Int)<(rs.length:Int) by omega)]
  refine iteF (go_next rfl ?_)
  refine⟨_,rfl,_,rfl,rfl,_,rfl,?_⟩
  rw[dint_ne hsl]
  refine iteT ?_
  refine⟨_,rfl,p3,_,rfl,SqL.of g3,?_⟩
  dsimp only
  by_cases hn:cutParts rs=[]
  ·rw[if_pos ⟨rfl,hn⟩]at qn
   have:zs=[]:=List.length_eq_zero_iff.mp (by rw[lz,hn]; rfl)
   subst this
   exact iteT ⟨one,qn rfl H3 S03⟩
  rw[if_neg (fun z=>hn z.2)]at qn qs
  have:(!zs.isEmpty)=true:=by
   cases zs with
   | nil=>exact absurd (List.length_eq_zero_iff.mp lz.symm) hn
   | cons _ _=>rfl
  rw[this]
  refine iteF (go_next rfl ?_)
  refine fin (fun z=>qn (if_pos z) H3 S03) (fun z=>qs _ (if_neg z) p3 H3 S03 h03 ?_)
  simp only[Den]
  exact⟨p3,zs,rfl,g3,dz⟩
end
end Qh
end
section
namespace Qh
open PySem L2
abbrev s_book_of:Stmt:=top 51
def unRow:PyData->Rw
 | .tuple [.str k,.int n,b]=>(k,n,intsOf b)
 | _=>("from",0,[])
theorem un_row (r:Rw):unRow (rowR r)=r:=by
 obtain⟨k,n,b⟩:=r
 show (k,n,intsOf (.tuple (b.map .int)))=_
 rw[ints_int]
theorem un_rows (rs:List Rw):(rs.map rowR).map unRow=rs:=by
 rw[List.map_map]
 have:unRow ∘ rowR=id:=funext un_row
 rw[this,List.map_id]
def segR (bs:List Int) (last:Bool):Option (List Rw):=match readL (bs.length+1) bs with
 | none=>none
 | some r=>segRows bs last (r.1.map unRow)
def bookL (D:Dk) (last:Int):List Int->Bk->Option Bk
 | [],B=>some B
 | s::ss,B=>match lookF D.fs (segN s) with
  | none=>none
  | some bs=>match segR bs (decide (s=last)) with
   | none=>none
   | some rs=>match foldB s B rs with
    | none=>none
    | some B'=>bookL D last ss B'
theorem bookL_cons (D:Dk) (last s:Int) (ss:List Int) (B:Bk):bookL D last (s::ss) B=match lookF D.fs (segN s) with
  | none=>none
  | some bs=>match segR bs (decide (s=last)) with
   | none=>none
   | some rs=>match foldB s B rs with
    | none=>none
    | some B'=>bookL D last ss B':=rfl
def sizeS (D:Dk) (n:Int):Nat:=((lookF D.fs (segN n)).getD []).length
theorem cutParts_len (rs:List Rw):(cutParts rs).length<=rs.length:=by
 unfold cutParts
 rw[List.length_reverse]
 exact Nat.le_trans (List.dropWhile_sublist _).length_le (by rw[List.length_reverse]; exact Nat.le_refl _)
theorem segRows_cut {bs:List Int} {l:Bool} {rs rs':List Rw} (h:segRows bs l rs=some rs'):rs'=cutParts rs:=by
 unfold segRows at h
 split at h
 ·cases h
 ·split at h
  ·cases h
  split at h
  ·cases h
  split at h
  ·cases h
  ·cases h
   rfl
theorem cutParts_mem {rs:List Rw}:∀ r∈cutParts rs,r∈rs:=fun r h=>by
 unfold cutParts at h
 rw[List.mem_reverse]at h
 have:=(List.dropWhile_sublist _).subset h
 rwa [List.mem_reverse]at this
structure DiskOk (D:Dk) (ns:List Int):Prop where
 keys:D.fs.map (·.1)=ns.map segN
 nums:∀ n∈ns,numOk n
 few:ns.length<64
 bytes:∀ n bs,lookF D.fs n=some bs->(∀ b∈bs,0<=b/\b<=255)/\bs.length<=100000
 size:(ns.map (sizeS D)).sum<=5600
theorem lookF_in {fs:List (Str × List Int)} {n:Str} (h:n∈fs.map (·.1)):∃ bs,lookF fs n=some bs:=by
 unfold lookF
 cases e:fs.find? fun p=>decide (p.1=n) with
 | none=>
  rw[List.find?_eq_none]at e
  rw[List.mem_map]at h
  obtain⟨p,hp,he⟩:=h
  exact absurd (decide_eq_true he) (e p hp)
 | some p=>exact⟨p.2,rfl⟩
def sp_book_of (A:Ad):Sp:=fun vs H Q E=>∃ (dk df:Addr) (kvs:List (Key × V)) (D:Dk) (ns:List Int),vs=[.ref dk]/\DiskAt A.disk H dk df kvs D/\DiskOk D ns/\∀ ms,List.Perm ms ns->ms.Pairwise (· <= ·)->
 (¬ gapless ms->∀ H',Same H H'->E (.ref A.broken) none H')/\(gapless ms->(bookL D (ms.getLastD 0) ms ⟨[],0,[]⟩=none->∀ H',Same H H'->E (.ref A.broken) none H')/\
  ∀ B,bookL D (ms.getLastD 0) ms ⟨[],0,[]⟩=some B->7 * (B.es.length+B.parts.length)<=5600->∀ bk de dp H',Same H H'->H bk=none->H de=none->H dp=none->BookAt A.book H' bk de dp B->Q (.ref bk) H')
section
variable {P:Program} {w:World} {K:PySem.W.Frag} {mg:Str->Option Value} {base:Heap} {A:Ad}
theorem sc_book_of:FnScope ["disk","segments","book","segment","row"] ["disk"] (defScope s_book_of):=‹0›
set_option maxHeartbeats 2000000 in
theorem ok_book_of {f:Addr} {fd:FuncData} (F:Fun K "book_of" "book_of" s_book_of f fd) (T:TxtQ K mg A) (c_segments_on:‹10› "segments_on" 3 ["disk"] (sp_segments_on A)) (c_rows_of:‹10› "rows_of" 6 ["disk","segment","last"] (sp_rows_of A)) (c_Book:‹12› "Book" A.book 1 ["self"] (sp_init A.book)) (mB_enter:‹11› A.book "enter" 3 ["self","row","segment"] (sp_enter A.book A.broken)):‹9› 7 f fd ["disk"] (sp_book_of A):=by
 refine F.okX sc_book_of (fun vs H Q E h=>?_) (fun cdv A' outer s H vs Q E hr h=>?_)
 ·obtain⟨dk,df,kvs,D,ns,rfl,_⟩:=h
  rfl
 ·obtain⟨dk,df,kvs,D,ns,rfl,hD,ok,q⟩:=h
  refine⟨_,@pss_cons _ _ _ _ _ (@ps_set _ _ (1) _ _ _ _ sc_book_of.nd (by rfl) (by first | exact Or.inl (by rfl) | exact Or.inr (by rfl)) (@pe_fn _ _ _ _ _ _ _ _ _ _ _ c_segments_on ‹15› passS ‹37› ⋯ ⋯ ⋯ ⋯) ⋯ ⋯) (@pss_cons _ _ _ _ _ (@ps_set _ _ (2) _ _ _ _ sc_book_of.nd (by rfl) (by first | exact Or.inl (by rfl) | exact Or.inr (by rfl)) (@pe_mk0 _ _ _ _ _ _ _ _ _ c_Book ‹15› passS ⋯ ⋯) ⋯ ⋯) (@pss_cons _ _ _ _ _ (@ps_for _ _ _ _ _ _ _ _ (ownB own_cx) (by rfl) (@pi_listK _ K _ _ _ ‹21› ⋯) (@pg_name _ _ (3) _ sc_book_of.nd (by rfl) (by first | exact Or.inl (by rfl) | exact Or.inr (by rfl)) ⋯) (@pss_one _ _ _ (@ps_for _ _ _ _ _ _ _ _ (ownB own_cx) (by rfl) (@pi_listK _ K _ _ _ (@pe_fn _ _ _ _ _ _ _ _ _ _ _ c_rows_of ‹15› passS (@pa_Name _ _ _ _ _ _ ‹20› (@pa_Name _ _ _ _ _ _ ‹26› (@pa_Subscript _ _ _ _ _ _ _ ‹48› (@pa_nil _)))) ⋯ ⋯ ⋯ ⋯) ⋯) (@pg_name _ _ (4) _ sc_book_of.nd (by rfl) (by first | exact Or.inl (by rfl) | exact Or.inr (by rfl)) ⋯) (@pss_one _ _ _ (ps_expr (pe_me mB_enter T.cl_Book ‹15› passS (pv 2) (pa_Name (pv 4) (pa_Name (pv 3) pa_nil))))) ⋯)) ⋯) (@pss_one _ _ _ (@ps_ret _ _ _ _ ‹25›)))),?_⟩
  refine⟨_,rfl,dk,df,kvs,D,ns,rfl,hD,ok.keys,ok.nums,ok.few,fun ms perm pw hg p H1 S1 hp g1=>?_,fun ms perm pw hg H1 S1=>(q ms perm pw).1 hg H1 S1⟩
  obtain⟨qn,qs⟩:=(q ms perm pw).2 hg
  refine fun bk dx hbk hdx ndx=>⟨bk,dx,rfl,upd_same,fun de dp H2 f2 hde hdp hB2=>⟨rfl,?_⟩⟩
  have S12:Same H1 H2:=fun b o e=>by
   have nb:b≠bk:=fun z=>by rw[z,hbk]at e; cases e
   have nd:b≠dx:=fun z=>by rw[z,hdx]at e; cases e
   exact f2 b o (by rw[upd_ne nb,upd_ne nd]; exact e) nb
  have fr:∀ c,upd (upd H1 dx (.own bk)) bk (.ins A.book dx []) c=none->H1 c=none:=fun c e=>by
   cases e2:H1 c with
   | none=>rfl
   | some o=>
    have nb:c≠bk:=fun z=>by rw[z,hbk]at e2; cases e2
    have nd:c≠dx:=fun z=>by rw[z,hdx]at e2; cases e2
    rw[upd_ne nb,upd_ne nd,e2]at e
    cases e
  have hde1:=fr de hde
  have hdp1:=fr dp hdp
  have lm:=perm.length_eq
  have tot0:∀ k,((ms.take k).map (sizeS D)).sum<=5600:=fun k=>by
   have h1:=(perm.map (sizeS D)).sum_nat
   rw[<- List.take_append_drop k ms,List.map_append,List.sum_append]at h1
   have:=ok.size
   omega
  refine⟨_,rfl,p,rfl,⟨_,SqL.of (S12 _ _ g1)⟩,?_⟩
  refine for_src0 (src_list (K:=K) (SqL.of g1)) (fun i σ H'=>Same H1 H'/\∃ Bi dpi z3 z4,BookAt A.book H' bk de dpi Bi/\H1 dpi=none/\7 * (Bi.es.length+Bi.parts.length)<=((ms.take i).map (sizeS D)).sum/\bookL D (ms.getLastD 0) ms ⟨[],0,[]⟩=bookL D (ms.getLastD 0) (ms.drop i) Bi/\σ = [some (.ref dk),some (.ref p),some (.ref bk),z3,z4]) ?i0 (fun i σ H' h=>h.1) ?_ ?_
  case i0=>exact⟨S12,_,dp,none,none,hB2,hdp1,Nat.le_refl _,rfl,rfl⟩
  ·rintro i x σ H5 H6 hi ⟨s5,Bi,dpi,z3,z4,hBi,hdpi,hle,hfo,rfl⟩ s6 hx
   rw[List.getElem?_map]at hx
   cases e:ms[i]? with
   | none=>rw[e]at hx; cases hx
   | some n=>
    rw[e]at hx
    cases hx
    have iL:i<ms.length:=(List.getElem?_eq_some_iff.mp e).1
    have hm:ms≠[]:=fun z=>by rw[z]at iL; simp at iL
    have ed:ms.drop i=n::ms.drop (i+1):=by
     rw[List.drop_eq_getElem_cons iL,(List.getElem?_eq_some_iff.mp e).2]
    have et:ms.take (i+1)=ms.take i++[n]:=by
     rw[List.take_succ,e]
     rfl
    have nin:n∈ns:=perm.mem_iff.mp (List.mem_of_getElem? e)
    obtain⟨bs,hbs⟩:=lookF_in (fs:=D.fs) (n:=segN n) (by rw[ok.keys]; exact List.mem_map_of_mem nin)
    obtain⟨by1,by2⟩:=ok.bytes _ _ hbs
    rw[ed]at hfo
    rw[bookL_cons,hbs]at hfo
    dsimp only at hfo
    have S16:Same H1 H6:=s5.trans s6
    have hD6:=hD.same (S1.trans S16)
    have sz:sizeS D n=bs.length:=by unfold sizeS; rw[hbs]; rfl
    have tot:=tot0 (i+1)
    rw[et,List.map_append,List.sum_append,List.map_singleton,List.sum_singleton,sz]at tot
    refine⟨_,rfl,_,rfl,_,rfl,1,rfl,p,_,_,.int (ms.getLastD 0),rfl,rfl,SqL.of (S16 _ _ g1),last_at hm,dk,df,kvs,D,n,ms.getLastD 0,bs,rfl,hD6,ok.nums n nin,hbs,by1,by2,fun er H7 S7=>?_,fun rs0 k er hrs=>⟨fun hn H7 S7=>?_,fun rs hsome pr H7 S7 hpr d7=>?_⟩⟩
    ·refine qn ?_ H7 (S1.trans (S16.trans S7))
     rw[hfo]
     unfold segR
     rw[er]
    ·refine qn ?_ H7 (S1.trans (S16.trans S7))
     rw[hfo]
     unfold segR
     rw[er]
     dsimp only
     rw[un_rows,hn]
    have hR:segR bs (decide (n=ms.getLastD 0))=some rs:=by
     unfold segR
     rw[er]
     dsimp only
     rw[un_rows]
     exact hsome
    rw[hR]at hfo
    dsimp only at hfo
    have ers:=segRows_cut hsome
    have hrs':∀ r∈rs,isRowD (rowR r)=true:=fun r h=>hrs r (cutParts_mem r (by rw[<- ers]; exact h))
    have rl:7 * rs.length<=bs.length:=by
     have h1:=(read_all er).2
     rw[List.length_map]at h1
     have h2:=cutParts_len rs0
     rw[<- ers]at h2
     omega
    simp only[Den]at d7
    obtain⟨_,xs,e7,g7,dx7⟩:=d7
    cases e7
    have lx:=dx7.length
    rw[List.length_map]at lx
    have S17:Same H1 H7:=S16.trans S7
    have hB7:=hBi.same (s6.trans S7)
    have hB6:=hBi.same s6
    obtain⟨dx6,h16⟩:=hB6.self
    have npb:pr≠bk:=fun z=>by rw[z,h16]at hpr; cases hpr
    have npe:pr≠de:=fun z=>by
     obtain⟨ks,h26,_⟩:=hB6.ent
     rw[z,h26]at hpr
     cases hpr
    have npd:pr≠dpi:=fun z=>by
     obtain⟨ps,h46,_⟩:=hB6.par
     rw[z,h46]at hpr
     cases hpr
    refine⟨pr,rfl,⟨_,SqL.of g7⟩,?_⟩
    refine for_src0 (H0:=fun a=>if a=pr then some (.lst xs) else none) (src_list (K:=K) (SqL.of (if_pos rfl))) (fun j σ H'=>H' pr=some (.lst xs)/\TupS H7 H'/\Same H1 H'/\∃ Bj dpj z4,BookAt A.book H' bk de dpj Bj/\H1 dpj=none/\pr≠dpj/\Bj.es.length+Bj.parts.length<=Bi.es.length+Bi.parts.length+j/\foldB n Bi rs=foldB n Bj (rs.drop j)/\σ = [some (.ref dk),some (.ref p),some (.ref bk),some (.int n),z4]) ?j0 ?kp ?_ ?_
    case j0=>exact⟨g7,fun _ _ e=>e,S17,Bi,dpi,_,hB7,hdpi,npd,Nat.le_refl _,rfl,rfl⟩
    case kp=>
     intro j σ H' h b o eb
     by_cases z:b=pr
     ·subst z
      have eb:some (HO.lst xs)=some o:=by simpa using eb
      rw[<- eb]
      exact h.1
     ·have eb:none=some o:=by simpa [z] using eb
      cases eb
    ·rintro j y σ L1 L2 hj ⟨l1,l2,l3,Bj,dpj,z4',hBj,hdpj,nprj,hlej,hfj,rfl⟩ sL hy
     obtain⟨d,hd,dn⟩:=dx7.get hy
     rw[List.getElem?_map]at hd
     cases ej:rs[j]? with
     | none=>rw[ej]at hd; cases hd
     | some r=>
      rw[ej]at hd
      cases (Option.some.inj hd:rowR r=d)
      have jL:j<rs.length:=(List.getElem?_eq_some_iff.mp ej).1
      have edj:rs.drop j=r::rs.drop (j+1):=by
       rw[List.drop_eq_getElem_cons jL,(List.getElem?_eq_some_iff.mp ej).2]
      rw[edj]at hfj
      have tu:TupS H7 L2:=l2.trans (Same.tup sL)
      obtain⟨t,b,rfl,gt,gb⟩:=row_form dn
      have dn':Den L2 (rowT r.1 r.2.1 r.2.2) (.ref t):=den_t tu (row_tup _ _ _) dn
      have hB2':=hBj.same sL
      obtain⟨dxL,hL⟩:=hB2'.self
      have S1L:Same H1 L2:=l3.trans sL
      have sf:∀ {H8:Hp},Frm bk de dpj L2 H8->Same H1 H8:=fun f8 c o ec=>f8 c o (S1L c o ec) (ne_of_none ec hbk) (ne_of_none ec hde1) (ne_of_none ec hdpj)
      have efold:foldB n Bj (r::rs.drop (j+1))=match enterF Bj r.1 r.2.1 r.2.2 n with | none=>none | some B'=>foldB n B' (rs.drop (j+1)):=rfl
      refine⟨_,rfl,bk,dxL,_,rfl,hL,rfl,_,rfl,_,rfl,bk,de,dpj,t,Bj,r.1,r.2.1,n,r.2.2,rfl,hB2',dn',hrs' r (List.mem_of_getElem? ej),by omega,fun B' hB' dq H8 f8 hdq hB8=>?_,fun hn H8 f8=>?_⟩
      ·refine⟨f8 _ _ (sL _ _ l1) npb npe nprj,tu.trans (hB2'.tup f8),sf f8,B',dq,_,hB8,?_,?_,?_,?_,rfl⟩
       ·rcases hdq with rfl | hdq
        ·exact hdpj
        ·exact S1L.free hdq
       ·rcases hdq with rfl | hdq
        ·exact nprj
        ·exact fun z=>by rw[<- z,sL _ _ l1]at hdq; cases hdq
       ·have:=enter_size hB'
        omega
       ·rw[hfj,efold,hB']
      ·refine qn ?_ H8 (S1.trans (sf f8))
       rw[hfo,hfj,efold,hn]
    ·rintro σ L1 ⟨l1,l2,l3,Bj,dpj,z4',hBj,hdpj,nprj,hlej,hfj,rfl⟩
     rw[lx,List.drop_of_length_le (Nat.le_refl _)]at hfj
     rw[lx]at hlej
     rw[hfj]at hfo
     refine⟨l3,Bj,dpj,_,_,hBj,hdpj,?_,hfo,rfl⟩
     rw[et,List.map_append,List.sum_append,List.map_singleton,List.sum_singleton,sz]
     omega
  ·rintro σ H5 ⟨s5,B,dpi,z3,z4,hB,hdpi,hle,hfo,rfl⟩
   rw[List.length_map,List.drop_of_length_le (Nat.le_refl _)]at hfo
   rw[List.length_map,List.take_length]at hle
   have tot:=tot0 ms.length
   rw[List.take_length]at tot
   exact⟨_,rfl,qs B hfo (by omega) bk de dpi H5 (S1.trans s5) (S1.free hbk) (S1.free hde1) (S1.free hdpi) hB⟩
end
end Qh
end
section
namespace Qh
open PySem L2
abbrev s_check_settings:Stmt:=top 42
abbrev s_check_body:Stmt:=top 43
abbrev s_check_hand:Stmt:=top 45
def hands:Str:="abcdefghijklmnopqrstuvwxyz"
def setOk (d1 d2 d3:PyData):Bool:=isNum 1 2000 d1 && (isNum 0 99 d2 && isNum 1 9 d3)
def sp_check_settings (A:Ad):Sp:=fun vs H Q E=>∃ (v1 v2 v3:V) (d1 d2 d3:PyData),vs=[v1,v2,v3]/\Den H d1 v1/\Den H d2 v2/\Den H d3 v3/\(setOk d1 d2 d3=true->Q .non H)/\(setOk d1 d2 d3=false->E (.ref A.badSettings) none H)
def sp_check_hand (A:Ad):Sp:=fun vs H Q E=>∃ (v:V) (d:PyData),vs=[v]/\Den H d v/\(∀ x,d = .str x->x.length<=1000/\ascii x=true)/\(wordD hands 6 d=true->∀ H',Same H H'->Q .non H')/\(wordD hands 6 d=false->∀ H',Same H H'->E (.ref A.badHand) none H')
def sp_check_body (A:Ad):Sp:=fun vs H Q E=>∃ (v:V) (d:PyData),vs=[v]/\Den H d v/\(∀ bs,d = .tuple bs->bs.length<=sizeLine)/\(isRowD (.tuple [.str "put",.int 0,d])=true->∀ H',Same H H'->Q .non H')/\(isRowD (.tuple [.str "put",.int 0,d])=false->∀ H',Same H H'->E (.ref A.badBody) none H')
section
variable {P:Program} {w:World} {K:PySem.W.Frag} {mg:Str->Option Value} {base:Heap} {A:Ad}
theorem sc_check_settings:FnScope ["most","hold","tries"] ["most","hold","tries"] (defScope s_check_settings):=‹0›
theorem ok_check_settings {f:Addr} {fd:FuncData} (F:Fun K "check_settings" "check_settings" s_check_settings f fd) (T:TxtQ K mg A) (c_is_number:‹5›):‹9› 2 f fd ["most","hold","tries"] (sp_check_settings A):=by
 obtain⟨_,hc_LARGEST_MOST⟩:=T.c_LARGEST_MOST
 obtain⟨_,hc_LONGEST_HOLD⟩:=T.c_LONGEST_HOLD
 obtain⟨_,hc_HIGHEST_TRIES⟩:=T.c_HIGHEST_TRIES
 refine F.okX sc_check_settings (fun vs H Q E h=>?_) (fun cdv A' outer s H vs Q E hr h=>?_)
 ·obtain⟨v1,v2,v3,d1,d2,d3,rfl,_⟩:=h
  rfl
 ·obtain⟨v1,v2,v3,d1,d2,d3,rfl,h1,h2,h3,q,qe⟩:=h
  refine⟨_,@pss_cons _ _ _ _ _ (@ps_if _ _ _ _ _ _ _ _ (@pt_not _ _ _ _ (@pt_val _ _ _ (@pe_fn _ _ _ _ _ _ _ _ _ _ _ c_is_number ‹15› passN (@pa_Name _ _ _ _ _ _ ‹20› (@pa_Constant _ _ _ _ _ _ _ ‹24› (@pa_Name _ _ _ _ _ _ (@pe_glob _ _ (.int 2000) _ _ (by rfl) hc_LARGEST_MOST ⟨_,rfl⟩ ⋯) (@pa_nil _)))) ⋯ ⋯ ⋯ ⋯) ⋯)) ‹43› (@pss_nil _)) (@pss_cons _ _ _ _ _ (@ps_if _ _ _ _ _ _ _ _ (@pt_not _ _ _ _ (@pt_val _ _ _ (@pe_fn _ _ _ _ _ _ _ _ _ _ _ c_is_number ‹15› passN (@pa_Name _ _ _ _ _ _ ‹21› (@pa_Constant _ _ _ _ _ _ _ ‹24› (@pa_Name _ _ _ _ _ _ (@pe_glob _ _ (.int 99) _ _ (by rfl) hc_LONGEST_HOLD ⟨_,rfl⟩ ⋯) (@pa_nil _)))) ⋯ ⋯ ⋯ ⋯) ⋯)) ‹43› (@pss_nil _)) (@pss_one _ _ _ (@ps_if _ _ _ _ _ _ _ _ (@pt_not _ _ _ _ (@pt_val _ _ _ (@pe_fn _ _ _ _ _ _ _ _ _ _ _ c_is_number ‹15› passN (@pa_Name _ _ _ _ _ _ ‹25› (@pa_Constant _ _ _ _ _ _ _ ‹24› (@pa_Name _ _ _ _ _ _ (@pe_glob _ _ (.int 9) _ _ (by rfl) hc_HIGHEST_TRIES ⟨_,rfl⟩ ⋯) (@pa_nil _)))) ⋯ ⋯ ⋯ ⋯) ⋯)) ‹43› (@pss_nil _)))),?_⟩
  unfold setOk at q qe
  have one:(1:Nat)<=sizeLine:=by decide
  refine⟨_,rfl,v1,d1,1,2000,rfl,h1,_,rfl,?_⟩
  cases e1:isNum 1 2000 d1 with
  | false=>
   rw[e1]at qe
   exact iteT ⟨one,qe rfl⟩
  | true=>
  rw[e1]at q qe
  refine iteF (go_next rfl ?_)
  refine⟨_,rfl,v2,d2,0,99,rfl,h2,_,rfl,?_⟩
  cases e2:isNum 0 99 d2 with
  | false=>
   rw[e2]at qe
   exact iteT ⟨one,qe rfl⟩
  | true=>
  rw[e2]at q qe
  refine iteF (go_next rfl ?_)
  refine⟨_,rfl,v3,d3,1,9,rfl,h3,_,rfl,?_⟩
  cases e3:isNum 1 9 d3 with
  | false=>
   rw[e3]at qe
   exact iteT ⟨one,qe rfl⟩
  | true=>
  rw[e3]at q
  exact iteF (q rfl)
theorem sc_check_hand:FnScope ["hand"] ["hand"] (defScope s_check_hand):=‹0›
theorem ok_check_hand {f:Addr} {fd:FuncData} (F:Fun K "check_hand" "check_hand" s_check_hand f fd) (T:TxtQ K mg A) (c_is_word:‹10› "is_word" 1 ["thing","signs","longest"] sp_is_word):‹9› 2 f fd ["hand"] (sp_check_hand A):=by
 obtain⟨_,hc_HAND_SIGNS⟩:=T.c_HAND_SIGNS
 obtain⟨_,hc_LONGEST_HAND⟩:=T.c_LONGEST_HAND
 refine F.okX sc_check_hand (fun vs H Q E h=>?_) (fun cdv A' outer s H vs Q E hr h=>?_)
 ·obtain⟨v,d,rfl,_⟩:=h
  rfl
 ·obtain⟨v,d,rfl,hd,hz,q,qe⟩:=h
  refine⟨_,@pss_one _ _ _ (@ps_if _ _ _ _ _ _ _ _ (@pt_not _ _ _ _ (@pt_val _ _ _ (@pe_fn _ _ _ _ _ _ _ _ _ _ _ c_is_word ‹15› passN (@pa_Name _ _ _ _ _ _ ‹20› (@pa_Name _ _ _ _ _ _ (@pe_glob _ _ (.str "abcdefghijklmnopqrstuvwxyz") _ _ (by rfl) hc_HAND_SIGNS ⟨_,rfl⟩ ⋯) (@pa_Name _ _ _ _ _ _ (@pe_glob _ _ (.int 6) _ _ (by rfl) hc_LONGEST_HAND ⟨_,rfl⟩ ⋯) (@pa_nil _)))) ⋯ ⋯ ⋯ ⋯) ⋯)) (@pss_one _ _ _ (@ps_raise _ _ _ _ _ _ _ _ _ _ raisesB (by rfl) T.x_BadHand (by rfl) T.m_BadHand ‹23› ⋯ ⋯ ⋯)) (@pss_nil _)),?_⟩
  refine⟨_,rfl,v,d,hands,6,rfl,hd,hz,fun H1 S1=>⟨_,rfl,?_⟩⟩
  cases hb:wordD hands 6 d with
  | false=>exact iteT ⟨(by show 1<=sizeLine; decide),qe hb H1 S1⟩
  | true=>exact iteF (q hb H1 S1)
theorem sc_check_body:FnScope ["body"] ["body"] (defScope s_check_body):=‹0›
theorem ok_check_body {f:Addr} {fd:FuncData} (F:Fun K "check_body" "check_body" s_check_body f fd) (T:TxtQ K mg A) (c_is_row:‹10› "is_row" 3 ["thing"] sp_is_row):‹9› 4 f fd ["body"] (sp_check_body A):=by
 refine F.okX sc_check_body (fun vs H Q E h=>?_) (fun cdv A' outer s H vs Q E hr h=>?_)
 ·obtain⟨v,d,rfl,_⟩:=h
  rfl
 ·obtain⟨v,d,rfl,hd,hz,q,qe⟩:=h
  refine⟨_,@pss_one _ _ _ (@ps_if _ _ _ _ _ _ _ _ (@pt_not _ _ _ _ (@pt_val _ _ _ (@pe_fn _ _ _ _ _ _ _ _ _ _ _ c_is_row ‹15› passN (@pa_Tuple _ _ _ _ _ _ _ (@pe_tup _ _ _ _ _ (@pa_Constant _ _ _ _ _ _ _ (@pe_str _ _ _ _) (@pa_Constant _ _ _ _ _ _ _ ‹24› ‹37›))) (@pa_nil _)) ⋯ ⋯ ⋯ ⋯) ⋯)) (@pss_one _ _ _ (@ps_raise _ _ _ _ _ _ _ _ _ _ raisesB (by rfl) T.x_BadBody (by rfl) T.m_BadBody ‹23› ⋯ ⋯ ⋯)) (@pss_nil _)),?_⟩
  refine⟨_,rfl,le_size,fun p hp=>?_⟩
  have S:=same_upd (o:=.tup [.str "put",.int 0,v]) hp
  refine⟨.ref p,.tuple [.str "put",.int 0,d],rfl,?_,fun k n bs e=>?_,fun H1 S1=>⟨_,rfl,?_⟩⟩
  ·simp only[Den,Dens]
   exact⟨p,_,rfl,upd_same,_,_,rfl,rfl,_,_,rfl,rfl,_,_,rfl,hd.same S,rfl⟩
  ·injection e with e
   injection e with _ e
   injection e with _ e
   injection e with e _
   exact hz bs e
  cases hb:isRowD (.tuple [.str "put",.int 0,d]) with
  | false=>exact iteT ⟨(by show 1<=sizeLine; decide),qe hb H1 (S.trans S1)⟩
  | true=>exact iteF (q hb H1 (S.trans S1))
end
end Qh
end
section
namespace Qh
open PySem L2
abbrev s_make_good:Stmt:=top 52
def mkN (D:Dk) (n:Str):Dk:=⟨D.fs++[(n,[])],D.done+1,none⟩
def dropN (D:Dk) (n:Str):Dk:=⟨dropA D.fs n,D.done+1,none⟩
def setN (D:Dk) (n:Str) (bs:List Int) (k:Nat):Dk:=⟨setA D.fs n bs,D.done+(k:Int),none⟩
theorem step_none {D:Dk} (h:D.left=none):stepF D=some ⟨D.fs,D.done+1,none⟩:=by
 unfold stepF
 rw[h]
theorem setA_two (fs:List (Str × List Int)) (n:Str) (a b:List Int):setA (setA fs n a) n b=setA fs n b:=by
 unfold setA
 rw[List.map_map]
 apply List.map_congr_left
 intro p _
 by_cases z:p.1=n
 ·simp [z]
 ·simp [z]
theorem setA_self {n:Str} {bs:List Int}:∀ {fs:List (Str × List Int)},(fs.map (·.1)).Nodup->lookF fs n=some bs->setA fs n bs=fs
 | [],_,_=>rfl
 | p::fs,hn,h=>by
  rw[List.map_cons,List.nodup_cons]at hn
  show (if p.1=n then (p.1,bs) else p)::setA fs n bs=_
  by_cases z:p.1=n
  ·have e:lookF (p::fs) n=some p.2:=by simp [lookF,z]
   rw[e]at h
   cases h
   rw[if_pos z,setA_no (fun m=>hn.1 (by rw[z]; exact m))]
  ·have e:lookF (p::fs) n=lookF fs n:=by simp [lookF,z]
   rw[e]at h
   rw[if_neg z,setA_self hn.2 h]
theorem addG_none {n:Str}:∀ {ns:List Int} {D:Dk} {bs:List Int},D.left=none->(D.fs.map (·.1)).Nodup->lookF D.fs n=some bs->addG n D ns=(setN D n (bs++ns) ns.length,true)
 | [],D,bs,hl,hk,hb=>by
  obtain⟨fs,done,left⟩:=D
  have hl:left=none:=hl
  subst hl
  show ((⟨fs,done,none⟩:Dk),true)=(⟨setA fs n (bs++[]),done+((0:Nat):Int),none⟩,true)
  rw[List.append_nil,setA_self hk hb]
  simp
 | b::ns,D,bs,hl,hk,hb=>by
  show (match stepF D with | none=>(D,false) | some D1=>addG n ⟨setA D1.fs n ((lookF D1.fs n).getD []++[b]),D1.done,D1.left⟩ ns)=_
  rw[step_none hl]
  dsimp only
  rw[hb,addG_none (bs:=bs++[b]) rfl (by rw[setA_keys]; exact hk) (setA_look hb)]
  unfold setN
  dsimp only
  rw[Option.getD_some,setA_two,List.append_assoc,List.length_cons]
  have:D.done+1+(ns.length:Int)=D.done+((ns.length+1:Nat):Int):=by omega
  rw[this]
  rfl
theorem FrmD.trans {dk df:Addr} {k1 k2:List (Key × V)} {H H1 H2:Hp} (f1:FrmD dk df k1 H H1) (g1:Grow dk df k1 k2 H) (f2:FrmD dk df k2 H1 H2):FrmD dk df k1 H H2:=fun b o e nb=>
 f2 b o (f1 b o e nb) (fun z=>(g1 b z).elim nb (fun y=>by rw[y]at e; cases e))
theorem Grow.trans {dk df:Addr} {k1 k2 k3:List (Key × V)} {H H1:Hp} (f1:FrmD dk df k1 H H1) (g1:Grow dk df k1 k2 H) (g2:Grow dk df k2 k3 H1):Grow dk df k1 k3 H:=fun b hb=>by
 rcases g2 b hb with z | z
 ·exact g1 b z
 ·by_cases y:own dk df k1 b
  ·exact .inl y
  ·refine .inr ?_
   cases e:H b with
   | none=>rfl
   | some o=>rw[f1 b o e y]at z; cases z
theorem own_in {C dk df:Addr} {H:Hp} {kvs:List (Key × V)} {D:Dk} (h:DiskAt C H dk df kvs D) {b:Addr} (hb:own dk df kvs b):∃ o,H b=some o:=by
 rcases hb with rfl | rfl | hb
 ·obtain⟨dx,h1⟩:=h.self
  exact⟨_,h1⟩
 ·exact⟨_,h.files⟩
 ·obtain⟨xs,e⟩:=file_lst h.rel hb
  exact⟨_,e⟩
theorem look_app (fs:List (Str × List Int)) (n m:Str) (e:List Int) (h:lookF fs n=none):lookF (fs++[(n,e)]) m=if m=n then some e else lookF fs m:=by
 unfold lookF at h ⊢
 rw[Option.map_eq_none_iff,List.find?_eq_none]at h
 rw[List.find?_append]
 by_cases z:m=n
 ·subst z
  have:fs.find? (fun p=>decide (p.1=m))=none:=List.find?_eq_none.mpr h
  rw[this,if_pos rfl]
  simp
 ·rw[if_neg z]
  have z':¬ n=m:=fun y=>z y.symm
  cases fs.find? (fun p=>decide (p.1=m)) with
  | none=>simp [z']
  | some p=>simp
theorem look_set (fs:List (Str × List Int)) (n m:Str) (e:List Int):lookF (setA fs n e) m=if m=n then (lookF fs n).map (fun _=>e) else lookF fs m:=by
 unfold lookF setA
 induction fs with
 | nil=>split <;> rfl
 | cons p fs ih=>
  rw[List.map_cons,List.find?_cons,List.find?_cons,List.find?_cons]
  by_cases z:m=n
  ·subst z
   rw[if_pos rfl]at ih ⊢
   by_cases y:p.1=m
   ·simp [y]
   ·simp only[y,if_false,decide_false]
    exact ih
  ·rw[if_neg z]at ih ⊢
   by_cases y:p.1=n
   ·have:¬ p.1=m:=fun x=>z (x.symm.trans y)
    simp only[y,if_true]
    rw[decide_eq_false (fun x:n=m=>z x.symm)]
    exact ih
   ·simp only[y,if_false]
    by_cases x:p.1=m
    ·simp [x]
    ·simp only[x,decide_false]
     exact ih
theorem from_ok {n:Int} (h0:0<=n) (h1:n<=999999):isRowD (rowR ("from",n,[]))=true:=by
 show (kinds.contains "from" && (isNum 0 999999 (.int n) && (isByt (.tuple []) && fitsK "from" (intsOf (.tuple [])))))=true
 have:isNum 0 999999 (.int n)=true:=by
  simp only[isNum,Bool.and_eq_true,decide_eq_true_eq]
  exact⟨h0,h1⟩
 rw[this]
 decide +kernel
theorem nil_go {σ : St} {H:Hp} {k:List V->Hp->Prop} (h:k [] H):tNil σ H k:=h
section
variable {C c1 c2 c3 c4 dk df:Addr} {kvs:List (Key × V)} {D:Dk} {n:Int} {H:Hp} {Q:V->Hp->Prop} {E:XK} {bs:List Int}
theorem use_make (hD:DiskAt C H dk df kvs D) (hl:D.left=none) (hn:numOk n) (hf:D.fs.length<1000) (hno:lookF D.fs (segN n)=none) (q:∀ kvs' H',FrmD dk df kvs H H'->Grow dk df kvs kvs' H->DiskAt C H' dk df kvs' (mkN D (segN n))->Q .non H'):sp_make C c1 c2 c3 [.ref dk,.str (segN n)] H Q E:=by
 refine⟨dk,df,kvs,D,_,.str (segN n),rfl,hD,by simp only[Den],seg_ok hn,hf,(fun z=>by rw[seg_word hn]at z; cases z),fun n' e _=>?_⟩
 injection e with e
 subst e
 refine⟨(fun bs z=>by rw[hno]at z; cases z),fun _=>⟨(fun z=>by rw[step_none hl]at z; cases z),fun D1 hs kvs' H' f g h=>?_⟩⟩
 rw[step_none hl]at hs
 cases hs
 exact q _ _ f g h
theorem use_drop (hD:DiskAt C H dk df kvs D) (hl:D.left=none) (hn:numOk n) (hb:lookF D.fs (segN n)=some bs) (q:∀ kvs' H',FrmD dk df kvs H H'->Grow dk df kvs kvs' H->DiskAt C H' dk df kvs' (dropN D (segN n))->Q .non H'):sp_drop C c1 c2 c3 [.ref dk,.str (segN n)] H Q E:=by
 refine⟨dk,df,kvs,D,_,.str (segN n),rfl,hD,by simp only[Den],seg_ok hn,(fun z=>by rw[seg_word hn]at z; cases z),fun n' e _=>?_⟩
 injection e with e
 subst e
 refine⟨(fun z=>by rw[hb]at z; cases z),fun bs' z=>⟨(fun z=>by rw[step_none hl]at z; cases z),fun D1 hs kvs' H' f g h=>?_⟩⟩
 rw[step_none hl]at hs
 cases hs
 exact q _ _ f g h
theorem use_cut {k:Nat} (hD:DiskAt C H dk df kvs D) (hl:D.left=none) (hn:numOk n) (hf:D.fs.length<1000) (hb:lookF D.fs (segN n)=some bs) (hk:k<=bs.length) (q:∀ kvs' H',FrmD dk df kvs H H'->Grow dk df kvs kvs' H->DiskAt C H' dk df kvs' (setN D (segN n) (bs.take k) 1)->Q .non H'):sp_cut C c1 c2 c3 c4 [.ref dk,.str (segN n),.int (k:Int)] H Q E:=by
 refine⟨dk,df,kvs,D,_,_,.str (segN n),.int (k:Int),rfl,hD,by simp only[Den],seg_ok hn,by simp only[Den],hf,(fun z=>by rw[seg_word hn]at z; cases z),fun n' e _=>?_⟩
 injection e with e
 subst e
 refine⟨(fun z=>by rw[hb]at z; cases z),fun bs' z=>?_⟩
 rw[hb]at z
 cases z
 have hi:isNum 0 bs.length (.int (k:Int))=true:=by
  simp only[isNum,Bool.and_eq_true,decide_eq_true_eq]
  omega
 refine⟨(fun z=>by rw[hi]at z; cases z),fun _=>⟨(fun z=>by rw[step_none hl]at z; cases z),fun D1 hs kvs' H' f g h=>?_⟩⟩
 rw[step_none hl]at hs
 cases hs
 exact q _ _ f g h
theorem use_add {a:Addr} {ns:List Int} (hD:DiskAt C H dk df kvs D) (hl:D.left=none) (hn:numOk n) (hb:lookF D.fs (segN n)=some bs) (hz:∀ n bs,lookF D.fs n=some bs->bs.length<=100000) (ha:H a=some (.tup (ns.map V.int))) (hby:∀ b∈ns,0<=b/\b<=255) (hln:ns.length<=100000) (q:∀ H',FrmD dk df kvs H H'->DiskAt C H' dk df kvs (setN D (segN n) (bs++ns) ns.length)->Q .non H'):sp_add C c1 c2 c3 c4 [.ref dk,.str (segN n),.ref a] H Q E:=by
 refine⟨dk,df,kvs,D,_,_,.str (segN n),.tuple (ns.map .int),rfl,hD,by simp only[Den],seg_ok hn,by simp only[Den]; exact⟨a,_,rfl,ha,dens_ints.mpr rfl⟩,(fun ds e=>by injection e with e; rw[<- e,List.length_map]; exact hln),hz,(fun z=>by rw[seg_word hn]at z; cases z),fun n' e _=>?_⟩
 injection e with e
 subst e
 refine⟨(fun z=>by rw[hb]at z; cases z),fun bs' z=>?_⟩
 rw[hb]at z
 cases z
 have hi:isByt (.tuple (ns.map .int))=true:=byt_all hby
 refine⟨(fun z=>by rw[hi]at z; cases z),fun _ H' f h=>?_⟩
 rw[ints_int,addG_none hl hD.kn hb]at h ⊢
 exact⟨fun _=>q H' f h,(fun z=>by cases z)⟩
theorem use_size (hD:DiskAt C H dk df kvs D) (hn:numOk n) (hb:lookF D.fs (segN n)=some bs) (q:∀ H',Same H H'->Q (.int (bs.length:Int)) H'):sp_size C c1 c2 [.ref dk,.str (segN n)] H Q E:=by
 refine⟨dk,df,kvs,D,_,.str (segN n),rfl,hD,by simp only[Den],seg_ok hn,(fun z=>by rw[seg_word hn]at z; cases z),fun n' e _=>?_⟩
 injection e with e
 subst e
 refine⟨(fun z=>by rw[hb]at z; cases z),fun bs' z=>?_⟩
 rw[hb]at z
 cases z
 exact q
theorem use_read (hD:DiskAt C H dk df kvs D) (hn:numOk n) (hb:lookF D.fs (segN n)=some bs) (q:∀ p H',Same H H'->H' p=some (.tup (bs.map V.int))->Q (.ref p) H'):sp_read C c1 c2 [.ref dk,.str (segN n)] H Q E:=by
 refine⟨dk,df,kvs,D,_,.str (segN n),rfl,hD,by simp only[Den],seg_ok hn,(fun z=>by rw[seg_word hn]at z; cases z),fun n' e _=>?_⟩
 injection e with e
 subst e
 refine⟨(fun z=>by rw[hb]at z; cases z),fun bs' z=>?_⟩
 rw[hb]at z
 cases z
 exact q
theorem use_rows {a:Addr} {rs:List Rw} {k:Nat} (ha:H a=some (.tup (bs.map V.int))) (hby:∀ b∈bs,0<=b/\b<=255) (hln:bs.length<=100000) (hr:readL (bs.length+1) bs=some (rs.map rowR,k)) (q:∀ p pL H',Same H H'->H' p=some (.tup [.ref pL,.int (k:Int)])->Den H' (.list (rs.map rowR)) (.ref pL)->Q (.ref p) H'):sp_rows_in c1 c2 [.ref a] H Q E:=by
 have isb:isByt (.tuple (bs.map .int))=true:=byt_all hby
 refine⟨.ref a,.tuple (bs.map .int),rfl,by simp only[Den]; exact⟨a,_,rfl,ha,dens_ints.mpr rfl⟩,(fun bs' e=>?_),(fun z=>by rw[isb]at z; cases z),fun _=>?_⟩
 ·injection e with e
  rw[<- e,List.length_map]
  exact Nat.le_trans hln (by decide)
 rw[ints_int]
 refine⟨fun ds k' er p2 H2 S2 d2=>?_,(fun z=>by rw[hr]at z; cases z)⟩
 rw[hr]at er
 cases er
 have d2':=d2
 simp only[Den,Dens]at d2'
 obtain⟨_,_,e1,gf,_,_,rfl,⟨pL,ys,rfl,gL,dL⟩,_,_,rfl,rfl,rfl⟩:=d2'
 cases e1
 exact q p2 pL H2 S2 gf (by simp only[Den]; exact⟨pL,ys,rfl,gL,dL⟩)
theorem row_parts {r:Rw} (h:isRowD (rowR r)=true):kinds.contains r.1=true/\0<=r.2.1/\r.2.1<=999999/\bytesOk r.2.2/\fitsK r.1 r.2.2=true:=by
 obtain⟨k,n,bs,e,hk,h0,h1,hb,hf⟩:=isRow_form h
 unfold rowR rowT at e
 injection e with e
 injection e with e1 e
 injection e with e2 e
 injection e with e3 e
 injection e1 with e1
 injection e2 with e2
 injection e3 with e3
 have hb':bytesOk (intsOf (.tuple bs)):=byt_bounds hb
 rw[<- e3,ints_int]at hf hb'
 rw[e1,e2]
 exact⟨hk,h0,h1,hb',by rw[<- e1]at hf ⊢; exact hf⟩
theorem row_small {r:Rw} (h:isRowD (rowR r)=true):r.2.2.length<=61:=fits_len (row_parts h).2.2.2.2
theorem row_bytes_ok {r:Rw} (h:isRowD (rowR r)=true):∀ b∈rowB r.1 r.2.1 r.2.2,0<=b/\b<=255:=by
 obtain⟨hk,h0,h1,hb,hf⟩:=row_parts h
 have hl:=fits_len hf
 have hm:r.1∈kinds:=by simpa using hk
 have hi:=List.idxOf_lt_length_of_mem hm
 have hi:kinds.idxOf r.1<8:=hi
 intro b hm
 unfold rowB behindF checksF at hm
 simp only[List.mem_append,List.mem_cons,List.not_mem_nil,or_false]at hm
 rcases hm with (z | z) | (((z | z | z | z) | z) | z)
 ·omega
 ·omega
 ·omega
 ·omega
 ·omega
 ·omega
 ·omega
 ·exact hb b z
theorem rowBD_R (r:Rw):rowBD (rowR r)=rowB r.1 r.2.1 r.2.2:=by
 show rowB r.1 r.2.1 (intsOf (.tuple (r.2.2.map .int)))=_
 rw[ints_int]
theorem use_rb {r:Rw} {v:V} (hd:Den H (rowR r) v) (hr:isRowD (rowR r)=true) (q:∀ p H',Same H H'->H' p=some (.tup ((rowB r.1 r.2.1 r.2.2).map V.int))->Q (.ref p) H'):sp_row_bytes c1 [v] H Q E:=by
 refine⟨v,rowR r,rfl,hd,fun k n bs e=>?_,fun _ p H' S g=>q p H' S (by rw[<- rowBD_R]; exact g),(fun z=>by rw[hr]at z; cases z)⟩
 have hs:=row_small hr
 unfold rowR rowT at e
 injection e with e
 injection e with e1 e
 injection e with e2 e
 injection e with e3 e
 injection e3 with e3
 rw[<- e3,List.length_map]
 exact Nat.le_trans hs (by decide)
end
end Qh
end
section
namespace Qh
open PySem L2
def keptRows (bs:List Int):List Rw:=match readL (bs.length+1) bs with
 | none=>[]
 | some r=>cutParts (r.1.map unRow)
def keptSize (rs:List Rw):Nat:=(rs.map fun r=>7+r.2.2.length).sum
def goodB (D:Dk) (ms:List Int):Dk × List Int:=
 if keptRows ((lookF D.fs (segN (ms.getLastD 0))).getD [])=[]/\1<ms.length then (dropN D (segN (ms.getLastD 0)),ms.dropLast)
 else
  let bs:=(lookF D.fs (segN (ms.getLastD 0))).getD []
  let D2:=if keptSize (keptRows bs)<bs.length then setN D (segN (ms.getLastD 0)) (bs.take (keptSize (keptRows bs))) 1 else D
  if keptRows bs=[] then (setN D2 (segN (ms.getLastD 0)) (rowB "from" 0 []) 7,ms) else (D2,ms)
def goodN (D:Dk) (ms:List Int):Dk × List Int:=if ms=[] then goodB (mkN D (segN 0)) [0] else goodB D ms
def sp_make_good (A:Ad):Sp:=fun vs H Q _=>∃ (dk df:Addr) (kvs:List (Key × V)) (D:Dk) (ns:List Int),vs=[.ref dk]/\DiskAt A.disk H dk df kvs D/\D.left=none/\DiskOk D ns/\∀ ms,List.Perm ms ns->ms.Pairwise (· <= ·)->gapless ms/\(∀ bs,lookF D.fs (segN (ms.getLastD 0))=some bs->readL (bs.length+1) bs≠none)/\
 ∀ kvs' H',FrmD dk df kvs H H'->Grow dk df kvs kvs' H->DiskAt A.disk H' dk df kvs' (goodN D ms).1->∀ p,H' p=some (.lst ((goodN D ms).2.map V.int))->¬ own dk df kvs' p->Q (.ref p) H'
theorem gn_join {i:Nat} {x:V} {s tl:TS} {D:Ends} {σ : St} {H:Hp} (J:St->Hp->Prop) (h2:∀ n:St->Hp->Prop,(∀ σ' H',J σ' H'->n σ' H')->s { D with nx:=n } (σ.set i (some x)) H) (h1:∀ σ' H',J σ' H'->tl D σ' H'):gName i x σ H (tSeq s tl D):=h2 _ h1
theorem seq_join {s tl:TS} {D:Ends} {σ : St} {H:Hp} (J:St->Hp->Prop) (h2:∀ n:St->Hp->Prop,(∀ σ' H',J σ' H'->n σ' H')->s { D with nx:=n } σ H) (h1:∀ σ' H',J σ' H'->tl D σ' H'):tSeq s tl D σ H:=h2 _ h1
theorem cut_last {xs:List V} (h:xs≠[]):cutV xs none (some (-1))=xs.dropLast:=by
 have hl:0<xs.length:=List.length_pos_iff.mpr h
 unfold cutV
 have e:HT.sIx xs.length xs.length (some (-1))=xs.length - 1:=by
  unfold HT.sIx
  simp
  omega
 rw[HT.sIx_none,e,List.drop_zero,Nat.sub_zero,List.dropLast_eq_take]
section
variable {P:Program} {w:World} {K:PySem.W.Frag} {mg:Str->Option Value} {base:Heap} {A:Ad}
theorem sc_make_good:FnScope ["disk","segments","name","rows","size"] ["disk"] (defScope s_make_good):=‹0›
set_option maxHeartbeats 2000000 in
theorem ok_make_good {f:Addr} {fd:FuncData} (F:Fun K "make_good" "make_good" s_make_good f fd) (T:TxtQ K mg A) (c_segment_name:‹2›) (c_segments_on:‹10› "segments_on" 3 ["disk"] (sp_segments_on A)) (c_rows_in:‹10› "rows_in" 5 ["some"] (sp_rows_in A.badRow A.broken)) (c_without_last_parts:‹10› "without_last_parts" 1 ["rows"] sp_without) (c_row_bytes:‹10› "row_bytes" 4 ["row"] (sp_row_bytes A.badRow))
  (mD_read:‹11› A.disk "read" 4 ["self","name"] (sp_read A.disk A.badName A.missing)) (mD_size:‹11› A.disk "size" 4 ["self","name"] (sp_size A.disk A.badName A.missing)) (mD_make:‹11› A.disk "make" 3 ["self","name"] (sp_make A.disk A.badName A.there A.stopped)) (mD_drop:‹11› A.disk "drop" 4 ["self","name"] (sp_drop A.disk A.badName A.missing A.stopped)) (mD_cut:‹11› A.disk "cut" 4 ["self","name","size"] (sp_cut A.disk A.badName A.missing A.badNumber A.stopped)) (mD_add:‹4›):‹9› 6 f fd ["disk"] (sp_make_good A):=by
 refine F.okX sc_make_good (fun vs H Q E h=>?_) (fun cdv A' outer s H vs Q E hr h=>?_)
 ·obtain⟨dk,df,kvs,D,ns,rfl,_⟩:=h
  rfl
 ·obtain⟨dk,df,kvs,D,ns,rfl,hD,hl,ok,q⟩:=h
  refine⟨_,@pss_cons _ _ _ _ _ (@ps_set _ _ (1) _ _ _ _ sc_make_good.nd (by rfl) (by first | exact Or.inl (by rfl) | exact Or.inr (by rfl)) (@pe_fn _ _ _ _ _ _ _ _ _ _ _ c_segments_on ‹15› passS ‹37› ⋯ ⋯ ⋯ ⋯) ⋯ ⋯) (@pss_cons _ _ _ _ _ (@ps_if _ _ _ _ _ _ _ _ (@pt_not _ _ _ _ (@pt_listK _ K _ _ ‹21› ⋯ ⋯)) (@pss_cons _ _ _ _ _ (ps_expr (pe_me mD_make T.cl_Disk ‹15› passS (pv 0) (pa_Call (pe_fn c_segment_name ‹15› passN (pa_Constant pe_int pa_nil)) pa_nil))) (@pss_one _ _ _ (@ps_set _ _ (1) _ _ _ _ sc_make_good.nd (by rfl) (by first | exact Or.inl (by rfl) | exact Or.inr (by rfl)) (@pe_lst _ _ _ _ ‹41›) ⋯ ⋯))) (@pss_nil _)) (@pss_cons _ _ _ _ _ (@ps_set _ _ (2) _ _ _ _ sc_make_good.nd (by rfl) (by first | exact Or.inl (by rfl) | exact Or.inr (by rfl)) (@pe_fn _ _ _ _ _ _ _ _ _ _ _ c_segment_name ‹15› passN (@pa_Subscript _ _ _ _ _ _ _ ‹48› (@pa_nil _)) ⋯ ⋯ ⋯ ⋯) ⋯ ⋯) (@pss_cons _ _ _ _ _ (@ps_set _ _ (3) _ _ _ _ sc_make_good.nd (by rfl) (by first | exact Or.inl (by rfl) | exact Or.inr (by rfl)) (@pe_fn _ _ _ _ _ _ _ _ _ _ _ c_without_last_parts ‹15› passN (@pa_Subscript _ _ _ _ _ _ _ (@pe_ix _ _ _ _ _ _ _ (ix_tupK K) (@pe_fn _ _ _ _ _ _ _ _ _ _ _ c_rows_in ‹15› passS (@pa_Call _ _ _ _ _ _ _ _ (@pe_me _ _ _ _ _ _ _ _ _ _ _ _ _ _ _ mD_read T.cl_Disk ‹15› passS ‹20› ‹47› ⋯ ⋯ ⋯) (@pa_nil _)) ⋯ ⋯ ⋯ ⋯) ‹24› (fun _ _=>rfl)) (@pa_nil _)) ⋯ ⋯ ⋯ ⋯) ⋯ ⋯) (@pss_cons _ _ _ _ _ (@ps_if _ _ _ _ _ _ _ _ (@PW.pt _ _ _ (@pw_and _ _ _ _ _ _ _ (@pt_not _ _ _ _ (@pt_listK _ K _ _ ‹26› ⋯ ⋯)) (@pw_and1 _ _ _ _ (@pt_cmpR _ _ _ _ _ _ _ _ op_gt ‹33› ‹24› (nomark _))))) (@pss_cons _ _ _ _ _ (ps_expr (pe_me mD_drop T.cl_Disk ‹15› passS (pv 0) (pa_Name (pv 2) pa_nil))) (@pss_one _ _ _ (@ps_ret _ _ _ _ (@pe_slice _ _ _ _ _ _ _ _ _ _ (sl_listK K) ‹21› (@po_none _) (@po_some _ _ _ (@pe_un _ _ _ _ _ _ un_neg ‹24›)))))) (@pss_nil _)) (@pss_cons _ _ _ _ _ (@ps_set _ _ (4) _ _ _ _ sc_make_good.nd (by rfl) (by first | exact Or.inl (by rfl) | exact Or.inr (by rfl)) (@pe_callB _ _ _ _ _ _ _ _ _ (call_sumK K) (by rfl) T.n_sum bt_sum (@pa_ListComp _ _ _ _ _ _ _ _ (@pe_comp _ _ _ _ _ _ _ _ _ _ _ ["row"] [] (by rfl) (@pi_listK _ K _ _ _ ‹26› ⋯) (fun C s2 H2 ex=>(@pg_name _ _ (0) _ (show List.Nodup (["row"]:List Str) by decide +kernel) (by rfl) (Or.inl (by rfl)) ⋯)) ‹31› (fun C s2 H2 ex=>(@pe_callB _ _ _ _ _ _ _ _ _ (call_lenK K) (by rfl) T.n_len bt_len (@pa_Call _ _ _ _ _ _ _ _ (@pe_fn _ _ _ _ _ _ _ _ _ _ _ c_row_bytes ‹15› passN ‹37› ⋯ ⋯ ⋯ ⋯) (@pa_nil _)) ⋯ ⋯ ⋯ ⋯)) ⋯ ⋯ ⋯ ⋯) (@pa_nil _)) ⋯ ⋯ ⋯ ⋯) ⋯ ⋯) (@pss_cons _ _ _ _ _ (@ps_if _ _ _ _ _ _ _ _ (@pt_cmpR _ _ _ _ _ _ _ _ op_lt ‹28› (@pe_me _ _ _ _ _ _ _ _ _ _ _ _ _ _ _ mD_size T.cl_Disk ‹15› passS ‹20› ‹47› ⋯ ⋯ ⋯) (nomark _)) (@pss_one _ _ _ (ps_expr (pe_me mD_cut T.cl_Disk ‹15› passS (pv 0) (pa_Name (pv 2) (pa_Name (pv 4) pa_nil))))) (@pss_nil _)) (@pss_cons _ _ _ _ _ (@ps_if _ _ _ _ _ _ _ _ (@pt_not _ _ _ _ (@pt_listK _ K _ _ ‹26› ⋯ ⋯)) (@pss_one _ _ _ (ps_expr (pe_me mD_add T.cl_Disk ‹15› passS (pv 0) (pa_Name (pv 2) (pa_Call (pe_fn c_row_bytes ‹15› passS (pa_Tuple (pe_tup (pa_Constant pe_str (pa_Constant pe_int (pa_Tuple (pe_tup pa_nil) pa_nil)))) pa_nil)) pa_nil))))) (@pss_nil _)) (@pss_one _ _ _ (@ps_ret _ _ _ _ ‹21›))))))))),?_⟩
  refine⟨_,rfl,dk,df,kvs,D,ns,rfl,hD,ok.keys,ok.nums,ok.few,fun ms perm pw hg p H1 S1 hp g1=>?_,fun ms perm pw hg=>absurd (q ms perm pw).1 hg⟩
  obtain⟨_,hread,qs⟩:=q ms perm pw
  clear q
  have lm:=perm.length_eq
  have hn0:ms=[]->D.fs=[]:=fun e=>by
   rw[e]at perm
   have:ns=[]:=perm.symm.eq_nil
   have k:=ok.keys
   rw[this]at k
   exact List.map_eq_nil_iff.mp k
  have fl:D.fs.length<900:=by
   have:=congrArg List.length ok.keys
   rw[List.length_map,List.length_map]at this
   have:=ok.few
   omega
  have hD1:=hD.same S1
  have np:¬ own dk df kvs p:=fun z=>by
   obtain⟨o,e⟩:=own_in hD z
   rw[hp]at e
   cases e
  dsimp only
  refine gn_join (fun σ' H'=>∃ kvs1 D1 ms1 p1 bs,σ'=[some (.ref dk),some (.ref p1),none,none,none]/\FrmD dk df kvs H H'/\Grow dk df kvs kvs1 H/\DiskAt A.disk H' dk df kvs1 D1/\D1.left=none/\ms1≠[]/\numOk (ms1.getLastD 0)/\lookF D1.fs (segN (ms1.getLastD 0))=some bs/\(∀ n bs,lookF D1.fs n=some bs->(∀ b∈bs,0<=b/\b<=255)/\bs.length<=100000)/\readL (bs.length+1) bs≠none/\D1.fs.length<1000/\H' p1=some (.lst (ms1.map V.int))/\¬ own dk df kvs1 p1/\goodN D ms=goodB D1 ms1) (fun n hn=>?_) ?_
  ·refine⟨_,rfl,p,_,rfl,SqL.of g1,?_⟩
   dsimp only
   by_cases hm:ms=[]
   ·have hfs:=hn0 hm
    subst hm
    refine iteT ?_
    obtain⟨dx1,h11⟩:=hD1.self
    have hno:lookF D.fs (segN 0)=none:=by rw[hfs]; rfl
    refine⟨_,rfl,dk,dx1,_,rfl,h11,rfl,0,rfl,⟨by decide,by decide⟩,nil_go (use_make hD1 hl ⟨by decide,by decide⟩ (by omega) hno fun kvs' H2 f2 w2 hD2=>?_)⟩
    refine⟨le_size,fun p2 hp2=>?_⟩
    have S2:=same_upd (o:=.lst [.int 0]) hp2
    have g2:upd H2 p2 (.lst [.int 0]) p2=some (.lst [.int 0]):=upd_same
    generalize upd H2 p2 (.lst [.int 0])=H3 at S2 g2 ⊢
    have f02:FrmD dk df kvs H H2:=FrmD.trans (fun b o e _=>S1 b o e) (fun b h=>.inl h) f2
    have hmk:(mkN D (segN 0)).fs=[(segN 0,[])]:=by
     show D.fs++[(segN 0,[])]=_
     rw[hfs]
     rfl
    refine hn _ _ ⟨kvs',mkN D (segN 0),[0],p2,[],rfl,fun b o e nb=>S2 _ _ (f02 b o e nb),Grow.trans (fun b o e _=>S1 b o e) (fun b h=>.inl h) w2,hD2.same S2,rfl,by simp,⟨by decide,by decide⟩,?_,fun n bs e=>?_,?_,?_,g2,?_,?_⟩
    ·rw[hmk]
     simp [lookF]
    ·rw[hmk]at e
     have:bs=[]:=by
      unfold lookF at e
      rw[List.find?_cons]at e
      split at e
      ·cases e
       rfl
      ·cases e
     rw[this]
     exact⟨(fun b hb=>by cases hb),by decide⟩
    ·intro z
     rw[readL_step]at z
     cases z
    ·rw[hmk]
     decide
    ·intro z
     obtain⟨o,e⟩:=own_in hD2 z
     rw[e]at hp2
     cases hp2
    ·unfold goodN
     rw[if_pos rfl]
   ·obtain⟨x,ms',em⟩:=List.exists_cons_of_ne_nil hm
    have hem:(!(ms.map V.int).isEmpty)=true:=by rw[em]; rfl
    rw[hem]
    refine iteF (go_next rfl ?_)
    have lin:ms.getLastD 0∈ns:=by
     refine perm.mem_iff.mp ?_
     rw[List.getLastD_eq_getLast?,List.getLast?_eq_some_getLast hm]
     exact List.getLast_mem hm
    obtain⟨bs,hbs⟩:=lookF_in (fs:=D.fs) (n:=segN (ms.getLastD 0)) (by rw[ok.keys]; exact List.mem_map_of_mem lin)
    refine hn _ _ ⟨kvs,D,ms,p,bs,rfl,fun b o e _=>S1 b o e,fun b h=>.inl h,hD1,hl,hm,ok.nums _ lin,hbs,ok.bytes,hread bs hbs,by omega,g1,np,?_⟩
    unfold goodN
    rw[if_neg hm]
  rintro σ' H2 ⟨kvs1,D1,ms1,p1,bs,rfl,f2,w2,hD2,hl1,hm1,hnum,hbs,hby,hrd,hfl,g1',no1,egood⟩
  rw[egood]at qs
  clear egood
  obtain⟨dx2,h12⟩:=hD2.self
  obtain⟨hby1,hby2⟩:=hby _ _ hbs
  refine⟨_,rfl,1,rfl,p1,_,_,.int (ms1.getLastD 0),rfl,rfl,SqL.of g1',last_at hm1,ms1.getLastD 0,rfl,hnum,?_⟩
  cases er:readL (bs.length+1) bs with
  | none=>exact absurd er hrd
  | some res=>
  obtain⟨ds,k⟩:=res
  obtain⟨rall,rlen⟩:=read_all er
  obtain⟨rs,rfl,hrs⟩:=rows_of rall
  rw[List.length_map]at rlen
  have hk:keptRows bs=cutParts rs:=by
   unfold keptRows
   rw[er]
   show cutParts ((rs.map rowR).map unRow)=_
   rw[un_rows]
  refine⟨_,rfl,dk,dx2,_,rfl,h12,rfl,_,rfl,nil_go (use_read hD2 hnum hbs fun pr H3 S3 g3=>?_)⟩
  refine nil_go (use_rows g3 hby1 hby2 er fun pf pL H4 S4 g4 d4=>?_)
  refine⟨pf,_,_,.ref pL,rfl,rfl,SqT.of g4,atI_pos (by decide) rfl,pL,rs,rfl,d4,by omega,fun p5 H5 S5 hp5 d5=>?_⟩
  have hrs':∀ r∈cutParts rs,isRowD (rowR r)=true:=fun r h=>hrs r (cutParts_mem r h)
  have lcut:=cutParts_len rs
  generalize cutParts rs=rs' at hk d5 hrs' lcut
  simp only[Den]at d5
  obtain⟨_,zs,e5,g5,dz⟩:=d5
  cases e5
  have lz:=dz.length
  rw[List.length_map]at lz
  have S25:=S3.trans (S4.trans S5)
  have hD5:=hD2.same S25
  obtain⟨dx5,h15⟩:=hD5.self
  have g15:=S25 _ _ g1'
  have f5:FrmD dk df kvs H H5:=fun b o e nb=>S25 _ _ (f2 b o e nb)
  have ld:(lookF D1.fs (segN (ms1.getLastD 0))).getD []=bs:=by rw[hbs]; rfl
  unfold goodB at qs
  rw[ld,hk]at qs
  have no5:¬ own dk df kvs1 p5:=fun z=>by
   obtain⟨o,e⟩:=own_in hD2 z
   rw[S4 _ _ (S3 _ _ e)]at hp5
   cases hp5
  have bl1:ms1.length<=sizeLine\/True:=.inr trivial
  dsimp only
  refine gn_join (fun σ' H'=>σ'=[some (.ref dk),some (.ref p1),some (.str (segN (ms1.getLastD 0))),some (.ref p5),none]/\H'=H5/\¬ (rs'=[]/\1<ms1.length)) (fun n hn=>?_) ?_
  ·refine⟨_,rfl,p5,_,rfl,SqL.of g5,?_⟩
   dsimp only
   by_cases hr0:rs'=[]
   ·have:zs=[]:=List.length_eq_zero_iff.mp (by rw[lz,hr0]; rfl)
    subst this
    refine iteT ?_
    refine⟨_,rfl,p1,_,rfl,.inl (SqL.of g15),_,_,rfl,rfl,_,rfl,?_⟩
    rw[List.length_map]
    show if decide ((1:Int)<(ms1.length:Int))=true then _ else _
    by_cases hlen:1<ms1.length
    ·rw[if_pos (decide_eq_true (by omega))]
     refine⟨_,rfl,dk,dx5,_,rfl,h15,rfl,_,rfl,nil_go (use_drop hD5 hl1 hnum hbs fun kvs' H6 f6 w6 hD6=>?_)⟩
     have g16:=f6 _ _ g15 no1
     have nown:¬ own dk df kvs' p1:=fun z=>(w6 _ z).elim no1 (fun y=>by rw[y]at g15; cases g15)
     refine⟨_,rfl,1,rfl,_,rfl,p1,_,rfl,SqL.of g16,fun p7 hp7=>?_⟩
     have S7:=same_upd (o:=.lst (cutV (ms1.map V.int) none (some (-1)))) hp7
     have g7:upd H6 p7 (.lst (cutV (ms1.map V.int) none (some (-1)))) p7=some (.lst (cutV (ms1.map V.int) none (some (-1)))):=upd_same
     rw[cut_last (by simpa using hm1)]at S7 g7 ⊢
     have ed:(ms1.map V.int).dropLast=ms1.dropLast.map V.int:=by rw[List.map_dropLast]
     rw[ed]at S7 g7 ⊢
     rw[if_pos ⟨hr0,hlen⟩]at qs
     have f6':FrmD dk df kvs H H6:=FrmD.trans f5 w2 f6
     have w6':Grow dk df kvs kvs' H:=Grow.trans f5 w2 w6
     refine qs kvs' _ (fun b o e nb=>S7 _ _ (f6' b o e nb)) w6' (hD6.same S7) p7 g7 (fun z=>?_)
     obtain⟨o,e⟩:=own_in hD6 z
     rw[e]at hp7
     cases hp7
    ·rw[if_neg (by rw[decide_eq_true_eq]; omega)]
     exact go_next rfl (hn _ _ ⟨rfl,rfl,fun z=>hlen z.2⟩)
   ·have:(!zs.isEmpty)=true:=by
     cases zs with
     | nil=>exact absurd (List.length_eq_zero_iff.mp lz.symm) hr0
     | cons _ _=>rfl
    rw[this]
    exact iteF (iteF (go_next rfl (hn _ _ ⟨rfl,rfl,fun z=>hr0 z.1⟩)))
  rintro _ _ ⟨rfl,rfl,hnot⟩
  rw[if_neg hnot]at qs
  dsimp only at qs
  rw[hk]at qs
  refine⟨_,rfl,p5,rfl,⟨_,SqL.of g5⟩,?_⟩
  refine comp_src (src_list (K:=K) (SqL.of g5)) (by rw[lz]; exact Nat.le_trans (show _<=100000 by omega) (by decide)) (fun i y _=>∃ r,rs'[i]? = some r/\y = .int ((7+r.2.2.length:Nat):Int)) (fun _ _ _ _ _ h=>h) (fun σ=>∃ z,σ = [z]) ?z0 ?_ ?_
  case z0=>exact⟨none,rfl⟩
  ·intro i x σc H6 hi hσ s6 hx Q' hQ'
   obtain⟨z,rfl⟩:=hσ
   obtain⟨d,hd,dn⟩:=dz.get hx
   rw[List.getElem?_map]at hd
   cases ej:rs'[i]? with
   | none=>rw[ej]at hd; cases hd
   | some r=>
    rw[ej]at hd
    cases (Option.some.inj hd:rowR r=d)
    refine⟨_,rfl,nil_go (use_rb (dn.same s6) (hrs' r (List.mem_of_getElem? ej)) fun pb H7 S7 g7=>?_)⟩
    refine⟨pb,_,rfl,.inr (SqT.of g7),hQ' _ _ _ ⟨_,rfl⟩ S7 ⟨r,ej,?_⟩⟩
    rw[List.length_map,rowB_len]
  intro pS ys H6 hpS S6 gS hlen hR
  have ey:ys=(rs'.map fun r=>((7+r.2.2.length:Nat):Int)).map V.int:=by
   apply List.ext_getElem?
   intro j
   cases ej:ys[j]? with
   | none=>
    have h1:=List.getElem?_eq_none_iff.mp ej
    rw[List.getElem?_eq_none_iff.mpr]
    rw[List.length_map,List.length_map]
    omega
   | some y=>
    obtain⟨n,e1,rfl⟩:=hR j y ej
    rw[List.getElem?_map,List.getElem?_map,e1]
    rfl
  subst ey
  have esum:(rs'.map fun r=>((7+r.2.2.length:Nat):Int)).sum=((keptSize rs':Nat):Int):=by
   unfold keptSize
   clear hk dz hrs' lcut lz qs hnot gS hR hlen
   induction rs' with
   | nil=>rfl
   | cons r rs ih=>
    rw[List.map_cons,List.map_cons,List.sum_cons,List.sum_cons,ih]
    omega
  refine⟨pS,_,rfl,.inl (SqL.of gS),?_⟩
  rw[esum]
  have hD6:=hD5.same S6
  obtain⟨dx6,h16⟩:=hD6.self
  have f6:FrmD dk df kvs H H6:=fun b o e nb=>S6 _ _ (f5 b o e nb)
  dsimp only
  refine gn_join (fun σ' H'=>∃ kvs3,σ'=[some (.ref dk),some (.ref p1),some (.str (segN (ms1.getLastD 0))),some (.ref p5),some (.int ((keptSize rs':Nat):Int))]/\FrmD dk df kvs H H'/\Grow dk df kvs kvs3 H/\DiskAt A.disk H' dk df kvs3 (if keptSize rs'<bs.length then setN D1 (segN (ms1.getLastD 0)) (bs.take (keptSize rs')) 1 else D1)/\H' p1=some (.lst (ms1.map V.int))/\H' p5=some (.lst zs)/\¬ own dk df kvs3 p1) (fun n hn=>?_) ?_
  ·refine⟨_,rfl,_,rfl,dk,dx6,_,rfl,h16,rfl,_,rfl,nil_go (use_size hD6 hnum hbs fun H7 S7=>?_)⟩
   refine⟨_,_,rfl,rfl,_,rfl,?_⟩
   show if decide (((keptSize rs':Nat):Int)<(bs.length:Int))=true then _ else _
   have hD7:=hD6.same S7
   have f7:FrmD dk df kvs H H7:=fun b o e nb=>S7 _ _ (f6 b o e nb)
   have S57:=S6.trans S7
   by_cases hc:keptSize rs'<bs.length
   ·rw[if_pos (decide_eq_true (by omega))]
    obtain⟨dx7,h17⟩:=hD7.self
    refine⟨_,rfl,dk,dx7,_,rfl,h17,rfl,_,rfl,_,rfl,nil_go (use_cut (k:=keptSize rs') hD7 hl1 hnum hfl hbs (Nat.le_of_lt hc) fun kvs3 H8 f8 w8 hD8=>?_)⟩
    refine hn _ _ ⟨kvs3,rfl,FrmD.trans f7 w2 f8,Grow.trans f7 w2 w8,by rw[if_pos hc]; exact hD8,f8 _ _ (S57 _ _ g15) no1,f8 _ _ (S57 _ _ g5) no5,fun z=>(w8 _ z).elim no1 (fun y=>by rw[S57 _ _ g15]at y; cases y)⟩
   ·rw[if_neg (by rw[decide_eq_true_eq]; omega)]
    exact go_next rfl (hn _ _ ⟨kvs1,rfl,f7,w2,by rw[if_neg hc]; exact hD7,S57 _ _ g15,S57 _ _ g5,no1⟩)
  rintro _ H8 ⟨kvs3,rfl,f8,w8,hD8,g18,g58,no8⟩
  have hl8:(if keptSize rs'<bs.length then setN D1 (segN (ms1.getLastD 0)) (bs.take (keptSize rs')) 1 else D1).left=none:=by
   split
   ·rfl
   ·exact hl1
  refine⟨_,rfl,p5,_,rfl,SqL.of g58,?_⟩
  dsimp only
  by_cases hr0:rs'=[]
  ·have:zs=[]:=List.length_eq_zero_iff.mp (by rw[lz,hr0]; rfl)
   subst this
   refine iteT ?_
   have hks:keptSize rs'=0:=by rw[hr0]; rfl
   have hlk:lookF (if keptSize rs'<bs.length then setN D1 (segN (ms1.getLastD 0)) (bs.take (keptSize rs')) 1 else D1).fs (segN (ms1.getLastD 0))=some []:=by
    split
    ·show lookF (setA D1.fs _ _) _=_
     rw[setA_look hbs,hks]
     rfl
    ·rename_i hc
     have:bs=[]:=List.length_eq_zero_iff.mp (by omega)
     rw[hbs,this]
   have hlen8:∀ m b',lookF (if keptSize rs'<bs.length then setN D1 (segN (ms1.getLastD 0)) (bs.take (keptSize rs')) 1 else D1).fs m=some b'->b'.length<=100000:=fun m b' e=>by
    split at e
    ·have e:lookF (setA D1.fs _ _) m=some b':=e
     rw[look_set]at e
     split at e
     ·rw[hbs]at e
      cases e
      rw[hks]
      exact Nat.zero_le _
     ·exact(hby _ _ e).2
    ·exact(hby _ _ e).2
   rw[if_pos hr0]at qs
   generalize (if keptSize rs'<bs.length then setN D1 (segN (ms1.getLastD 0)) (bs.take (keptSize rs')) 1 else D1)=D8 at hD8 hl8 hlk hlen8 qs
   obtain⟨dx8,h18⟩:=hD8.self
   refine⟨_,rfl,dk,dx8,_,rfl,h18,rfl,_,rfl,le_size,fun q0 hq0=>⟨le_size,fun q1 hq1=>?_⟩⟩
   have U1:=same_upd (o:=.tup []) hq0
   have u0:upd H8 q0 (.tup []) q0=some (.tup []):=upd_same
   generalize upd H8 q0 (.tup [])=H9 at U1 u0 hq1 ⊢
   have U2:=same_upd (o:=.tup [.str "from",.int 0,.ref q0]) hq1
   have u1:upd H9 q1 (.tup [.str "from",.int 0,.ref q0]) q1=some (.tup [.str "from",.int 0,.ref q0]):=upd_same
   generalize upd H9 q1 (.tup [.str "from",.int 0,.ref q0])=H10 at U2 u1 ⊢
   have fo:=from_ok (n:=0) (by decide) (by decide)
   refine nil_go (use_rb (r:=("from",0,[])) ?_ fo fun pb H11 U3 u3=>?_)
   ·unfold rowR rowT
    simp only[Den,Dens]
    exact⟨q1,_,rfl,u1,_,_,rfl,rfl,_,_,rfl,rfl,_,_,rfl,⟨q0,[],rfl,U2 _ _ u0,rfl⟩,rfl⟩
   have U:=U1.trans (U2.trans U3)
   refine nil_go (use_add (hD8.same U) hl8 hnum hlk hlen8 u3 (row_bytes_ok fo) (by rw[rowB_len]; decide) fun H12 f12 hD12=>?_)
   refine⟨_,rfl,?_⟩
   rw[List.nil_append,rowB_len]at hD12
   have f11:FrmD dk df kvs H H11:=fun b o e nb=>U _ _ (f8 b o e nb)
   exact qs kvs3 H12 (FrmD.trans f11 w8 f12) w8 hD12 p1 (f12 _ _ (U _ _ g18) no8) no8
  ·have:(!zs.isEmpty)=true:=by
    cases zs with
    | nil=>exact absurd (List.length_eq_zero_iff.mp lz.symm) hr0
    | cons _ _=>rfl
   rw[this]
   refine iteF (go_next rfl ?_)
   rw[if_neg hr0]at qs
   exact⟨_,rfl,qs kvs3 H8 f8 w8 hD8 p1 g18 no8⟩
end
end Qh
end
section
namespace Qh
open PySem L2
structure Qs where
 D:Dk
 B:Bk
 most:Int
 hold:Int
 tries:Int
 first:Int
 last:Int
 now:Int
 hs:List (Int × (Str × Int))
structure Pl where
 qu:Addr
 dk:Addr
 df:Addr
 bk:Addr
 de:Addr
 dp:Addr
 hd:Addr
 kvs:List (Key × V)
def quF (L:Pl) (q:Qs) (wr:Bool):List (Str × V):=[("disk",.ref L.dk),("most",.int q.most),("hold",.int q.hold),("tries",.int q.tries),("book",.ref L.bk),("first",.int q.first),("last",.int q.last),("writing",.bl wr),("holders",.ref L.hd),("now",.int q.now)]
def HoR (H:Hp):List (Int × (Str × Int))->List (Key × V)->Prop
 | [],[]=>True
 | p::hs,r::kvs=>r.1=Sum.inl p.1/\(∃ t,r.2 = .ref t/\H t=some (.tup [.str p.2.1,.int p.2.2]))/\HoR H hs kvs
 | _,_=>False
theorem HoR.t {H H':Hp} (s:TupS H H'):∀ {hs:List (Int × (Str × Int))} {kvs:List (Key × V)},HoR H hs kvs->HoR H' hs kvs
 | [],[],_=>trivial
 | p::hs,r::kvs,h=>by
  obtain⟨h1,⟨t,e,g⟩,h3⟩:=h
  exact⟨h1,⟨t,e,s _ _ g⟩,HoR.t s h3⟩
 | [],_::_,h=>h.elim
 | _::_,[],h=>h.elim
def isBk (L:Pl) (b:Addr):Prop:=b=L.bk\/b=L.de\/b=L.dp
def isDk (L:Pl) (b:Addr):Prop:=own L.dk L.df L.kvs b
def isQu (L:Pl) (b:Addr):Prop:=b=L.qu\/b=L.hd\/isBk L b\/isDk L b
structure QueueW (A:Ad) (H:Hp) (L:Pl) (q:Qs) (wr:Bool):Prop where
 self:∃ dx,H L.qu=some (.ins A.queue dx (quF L q wr))
 disk:DiskAt A.disk H L.dk L.df L.kvs q.D
 book:BookAt A.book H L.bk L.de L.dp q.B
 held:∃ hk,H L.hd=some (.dK hk)/\HoR H q.hs hk
 a_bd:∀ b,isBk L b->¬ isDk L b
 a_qu:¬ isBk L L.qu/\¬ isDk L L.qu
 a_hd:L.hd≠L.qu/\¬ isBk L L.hd/\¬ isDk L L.hd
structure Step (L L':Pl) (H H':Hp):Prop where
 qu:L'.qu=L.qu
 dk:L'.dk=L.dk
 frm:∀ b o,H b=some o->¬ isQu L b->H' b=some o
 grow:∀ b,isQu L' b->isQu L b\/H b=none
 tup:TupS H H'
theorem Step.trans {L L1 L2:Pl} {H H1 H2:Hp} (a:Step L L1 H H1) (b:Step L1 L2 H1 H2):Step L L2 H H2:=by
 refine⟨b.qu.trans a.qu,b.dk.trans a.dk,fun c o e nc=>b.frm c o (a.frm c o e nc) (fun z=>(a.grow c z).elim nc (fun y=>by rw[y]at e; cases e)),fun c hc=>?_,a.tup.trans b.tup⟩
 rcases b.grow c hc with z | z
 ·exact a.grow c z
 ·by_cases y:isQu L c
  ·exact .inl y
  ·refine .inr ?_
   cases e:H c with
   | none=>rfl
   | some o=>rw[a.frm c o e y]at z; cases z
theorem Same.step {L:Pl} {H H':Hp} (s:Same H H'):Step L L H H':=⟨rfl,rfl,fun b o e _=>s b o e,fun b h=>.inl h,Same.tup s⟩
theorem DiskAt.keep {C dk df:Addr} {H H':Hp} {kvs:List (Key × V)} {D:Dk} (h:DiskAt C H dk df kvs D) (s:∀ b o,H b=some o->own dk df kvs b->H' b=some o):DiskAt C H' dk df kvs D:=by
 obtain⟨dx,h1⟩:=h.self
 exact⟨⟨dx,s _ _ h1 (.inl rfl)⟩,s _ _ h.files (.inr (.inl rfl)),h.rel.same fun b o e m=>s b o e (.inr (.inr m)),h.nd,h.kn⟩
theorem BookAt.keep {C bk de dp:Addr} {H H':Hp} {B:Bk} (h:BookAt C H bk de dp B) (s:∀ b o,H b=some o->b=bk\/b=de\/b=dp->H' b=some o) (t:TupS H H'):BookAt C H' bk de dp B:=by
 obtain⟨dx,h1⟩:=h.self
 obtain⟨kvs,h2,h3⟩:=h.ent
 obtain⟨ps,h4,h5⟩:=h.par
 exact⟨⟨dx,s _ _ h1 (.inl rfl)⟩,⟨kvs,s _ _ h2 (.inr (.inl rfl)),h3.t t⟩,⟨ps,s _ _ h4 (.inr (.inr rfl)),dens_t t (parts_tup _) h5⟩⟩
theorem FrmD.tup {C dk df:Addr} {H H':Hp} {kvs:List (Key × V)} {D:Dk} (h:DiskAt C H dk df kvs D) (f:FrmD dk df kvs H H'):TupS H H':=fun b xs e=>by
 refine f b _ e ?_
 rintro (rfl | rfl | z)
 ·obtain⟨dx,h1⟩:=h.self
  rw[h1]at e
  cases e
 ·rw[h.files]at e
  cases e
 ·obtain⟨ys,e2⟩:=file_lst h.rel z
  rw[e2]at e
  cases e
section
variable {A:Ad} {H H':Hp} {L:Pl} {q:Qs} {wr:Bool}
theorem QueueW.same (h:QueueW A H L q wr) (s:Same H H'):QueueW A H' L q wr:=by
 obtain⟨dx,h1⟩:=h.self
 obtain⟨hk,h2,h3⟩:=h.held
 exact⟨⟨dx,s _ _ h1⟩,h.disk.same s,h.book.same s,⟨hk,s _ _ h2,h3.t (Same.tup s)⟩,h.a_bd,h.a_qu,h.a_hd⟩
theorem QueueW.fields (h:QueueW A H L q wr) {dx:Addr} (q':Qs) (wr':Bool) (eD:q'.D=q.D) (eB:q'.B=q.B) (eH:q'.hs=q.hs):QueueW A (upd H L.qu (.ins A.queue dx (quF L q' wr'))) L q' wr'/\Step L L H (upd H L.qu (.ins A.queue dx (quF L q' wr'))):=by
 obtain⟨dx0,h1⟩:=h.self
 obtain⟨hk,h2,h3⟩:=h.held
 have t:TupS H (upd H L.qu (.ins A.queue dx (quF L q' wr'))):=tup_upd h1 (fun xs z=>by cases z)
 refine⟨⟨⟨dx,upd_same⟩,?_,?_,⟨hk,by rw[upd_ne h.a_hd.1]; exact h2,by rw[eH]; exact h3.t t⟩,h.a_bd,h.a_qu,h.a_hd⟩,⟨rfl,rfl,fun b o e nb=>by rw[upd_ne (fun z=>nb (.inl z))]; exact e,fun b hb=>.inl hb,t⟩⟩
 ·rw[eD]
  refine h.disk.keep fun b o e hb=>?_
  rw[upd_ne (fun z=>by rw[z]at hb; exact h.a_qu.2 hb)]
  exact e
 ·rw[eB]
  refine h.book.keep (fun b o e hb=>?_) t
  rw[upd_ne (fun z=>by rw[z]at hb; exact h.a_qu.1 hb)]
  exact e
theorem QueueW.toDisk (h:QueueW A H L q wr) {kvs':List (Key × V)} {D':Dk} (f:FrmD L.dk L.df L.kvs H H') (g:Grow L.dk L.df L.kvs kvs' H) (hD:DiskAt A.disk H' L.dk L.df kvs' D'):QueueW A H' { L with kvs:=kvs' } { q with D:=D' } wr/\Step L { L with kvs:=kvs' } H H':=by
 obtain⟨dx0,h1⟩:=h.self
 obtain⟨hk,h2,h3⟩:=h.held
 have t:TupS H H':=f.tup h.disk
 have far:∀ b o,H b=some o->¬ isDk L b->¬ own L.dk L.df kvs' b:=fun b o e nb z=>(g b z).elim nb (fun y=>by rw[y]at e; cases e)
 refine⟨⟨⟨dx0,f _ _ h1 h.a_qu.2⟩,hD,h.book.keep (fun b o e hb=>f b o e (h.a_bd b hb)) t,⟨hk,f _ _ h2 h.a_hd.2.2,h3.t t⟩,fun b hb=>?_,⟨h.a_qu.1,far _ _ h1 h.a_qu.2⟩,⟨h.a_hd.1,h.a_hd.2.1,far _ _ h2 h.a_hd.2.2⟩⟩,⟨rfl,rfl,fun b o e nb=>f b o e (fun z=>nb (.inr (.inr (.inr z)))),fun b hb=>?_,t⟩⟩
 ·obtain⟨dx,g1⟩:=h.book.self
  obtain⟨kvs,g2,_⟩:=h.book.ent
  obtain⟨ps,g3,_⟩:=h.book.par
  have nb:=h.a_bd b hb
  rcases hb with z | z | z
  ·exact far b _ (by rw[z]; exact g1) nb
  ·exact far b _ (by rw[z]; exact g2) nb
  ·exact far b _ (by rw[z]; exact g3) nb
 ·rcases hb with z | z | z | z
  ·exact .inl (.inl z)
  ·exact .inl (.inr (.inl z))
  ·exact .inl (.inr (.inr (.inl z)))
  ·rcases g b z with y | y
   ·exact .inl (.inr (.inr (.inr y)))
   ·exact .inr y
theorem QueueW.toBook (h:QueueW A H L q wr) {dq:Addr} {B':Bk} (f:Frm L.bk L.de L.dp H H') (hq:dq=L.dp\/H dq=none) (hB:BookAt A.book H' L.bk L.de dq B'):QueueW A H' { L with dp:=dq } { q with B:=B' } wr/\Step L { L with dp:=dq } H H':=by
 obtain⟨dx0,h1⟩:=h.self
 obtain⟨hk,h2,h3⟩:=h.held
 have t:TupS H H':=h.book.tup f
 have fr:∀ b o,H b=some o->¬ isBk L b->H' b=some o:=fun b o e nb=>f b o e (fun z=>nb (.inl z)) (fun z=>nb (.inr (.inl z))) (fun z=>nb (.inr (.inr z)))
 have nq:∀ b o,H b=some o->¬ isBk L b->¬ isBk { L with dp:=dq } b:=fun b o e nb z=>by
  rcases z with z | z | z
  ·exact nb (.inl z)
  ·exact nb (.inr (.inl z))
  ·rcases hq with y | y
   ·exact nb (.inr (.inr (z.trans y)))
   ·have z:b=dq:=z
    rw[z,y]at e
    cases e
 refine⟨⟨⟨dx0,fr _ _ h1 h.a_qu.1⟩,h.disk.keep (fun b o e hb=>fr b o e (fun z=>h.a_bd b z hb)),hB,⟨hk,fr _ _ h2 h.a_hd.2.1,h3.t t⟩,fun b hb hd=>?_,⟨nq _ _ h1 h.a_qu.1,h.a_qu.2⟩,⟨h.a_hd.1,nq _ _ h2 h.a_hd.2.1,h.a_hd.2.2⟩⟩,⟨rfl,rfl,fun b o e nb=>fr b o e (fun z=>nb (.inr (.inr (.inl z)))),fun b hb=>?_,t⟩⟩
 ·obtain⟨o,e⟩:=own_in h.disk hd
  by_cases y:isBk L b
  ·exact h.a_bd b y hd
  ·exact nq b o e y hb
 ·rcases hb with z | z | z | z
  ·exact .inl (.inl z)
  ·exact .inl (.inr (.inl z))
  ·rcases z with z | z | z
   ·exact .inl (.inr (.inr (.inl (.inl z))))
   ·exact .inl (.inr (.inr (.inl (.inr (.inl z)))))
   ·rcases hq with y | y
    ·exact .inl (.inr (.inr (.inl (.inr (.inr (z.trans y))))))
    ·have z:b=dq:=z
     rw[z]
     exact .inr y
  ·exact .inl (.inr (.inr (.inr z)))
end
end Qh
end
section
namespace Qh
open PySem L2
abbrev s_q_letters:Stmt:=inClass (top 53) 8
abbrev s_q_free:Stmt:=inClass (top 53) 17
abbrev s_q_ready:Stmt:=inClass (top 53) 9
abbrev s_q_coming:Stmt:=inClass (top 53) 12
abbrev s_q_sizes:Stmt:=inClass (top 53) 14
theorem let_form {H:Hp} {n:Int} {e:Ent} {v:V} (h:Den H (letD n e) v):∃ t b,v = .ref t/\H t=some (.tup [.int n,.ref b,.int e.2.1])/\H b=some (.tup (e.1.map V.int)):=by
 unfold letD at h
 simp only[Den,Dens]at h
 obtain⟨t,_,rfl,h1,_,_,rfl,rfl,_,_,rfl,⟨b,ys,rfl,h2,h3⟩,_,_,rfl,rfl,rfl⟩:=h
 rw[dens_ints.mp h3]at h2
 exact⟨t,b,rfl,h1,h2⟩
theorem range_getD {α : Type} (xs:List α) (d:α):(List.range xs.length).map (fun j=>xs.getD j d)=xs:=by
 apply List.ext_getElem?
 intro i
 rw[List.getElem?_map]
 by_cases h:i<xs.length
 ·rw[List.getElem?_range h,Option.map_some,List.getD_eq_getElem?_getD,List.getElem?_eq_getElem h]
  rfl
 ·rw[List.getElem?_eq_none (by rw[List.length_range]; omega),List.getElem?_eq_none (by omega)]
  rfl
theorem flt_list (ms:List Int) (t:Int->Bool):((List.range ms.length).filter (fun j=>t (ms.getD j 0))).map (fun j=>V.int (ms.getD j 0))=(ms.filter t).map V.int:=by
 have h:=congrArg (fun l=>(l.filter t).map V.int) (range_getD ms 0)
 rw[List.filter_map,List.map_map]at h
 exact h
def timesE (es:List (Int × Ent)) (n:Int):Int:=((lookE es n).getD ([],0,0)).2.1
def sp_q_letters (A:Ad):Sp:=fun vs H Q _=>∃ (L:Pl) (q:Qs),vs=[.ref L.qu]/\QueueW A H L q false/\q.B.es.length<64/\
 ∀ ms,List.Perm ms (q.B.es.map (·.1))->ms.Pairwise (· <= ·)->∀ p H',Same H H'->Den H' (.list (ms.map (letF q.B.es))) (.ref p)->Q (.ref p) H'
def lookH (hs:List (Int × (Str × Int))) (n:Int):Option (Str × Int):=(hs.find? fun p=>decide (p.1=n)).map (·.2)
def freeB (hs:List (Int × (Str × Int))) (n:Int):Bool:=(lookH hs n).isNone
def sp_q_free (A:Ad):Sp:=fun vs H Q _=>∃ (L:Pl) (q:Qs),vs=[.ref L.qu]/\QueueW A H L q false/\q.B.es.length<64/\
 ∀ ms,List.Perm ms (q.B.es.map (·.1))->ms.Pairwise (· <= ·)->∀ p H',Same H H'->Den H' (.list ((ms.filter (freeB q.hs)).map (letF q.B.es))) (.ref p)->Q (.ref p) H'
def sp_q_pick (A:Ad) (t:Int->Int->Bool):Sp:=fun vs H Q _=>∃ (L:Pl) (q:Qs),vs=[.ref L.qu]/\QueueW A H L q false/\q.B.es.length<64/\
 ∀ ms,List.Perm ms (q.B.es.map (·.1))->ms.Pairwise (· <= ·)->∀ p H',Same H H'->H p=none->H' p=some (.lst (((ms.filter (freeB q.hs)).filter fun n=>t (timesE q.B.es n) q.tries).map V.int))->Q (.ref p) H'
def ltB (i j:Int):Bool:=decide (i<j)
def sp_q_coming (A:Ad):Sp:=fun vs H Q _=>∃ (L:Pl) (q:Qs),vs=[.ref L.qu]/\QueueW A H L q false/\Q (.int q.B.up) H
def sp_q_sizes (A:Ad):Sp:=fun vs H Q _=>∃ (L:Pl) (q:Qs) (ns:List Int),vs=[.ref L.qu]/\QueueW A H L q false/\q.D.fs.map (·.1)=ns.map segN/\(∀ n∈ns,numOk n)/\ns.length<64/\∀ ms,List.Perm ms ns->ms.Pairwise (· <= ·)->gapless ms/\∀ p H',Same H H'->H' p=some (.lst ((ms.map fun n=>((sizeS q.D n:Nat):Int)).map V.int))->Q (.ref p) H'
theorem HoR.look {H:Hp} {n:Int}:∀ {hs:List (Int × (Str × Int))} {hk:List (Key × V)},HoR H hs hk->(lookH hs n=none->valV hk (Sum.inl n)=none)/\∀ x tm,lookH hs n=some (x,tm)->∃ t,valV hk (Sum.inl n)=some (.ref t)/\H t=some (.tup [.str x,.int tm])
 | [],[],_=>⟨fun _=>rfl,fun x tm e=>by cases e⟩
 | p::hs,r::hk,h=>by
  obtain⟨h1,⟨t,e2,g⟩,h3⟩:=h
  have ih:=HoR.look (n:=n) h3
  by_cases e:p.1=n
  ·have e1:lookH (p::hs) n=some p.2:=by
    unfold lookH
    rw[List.find?_cons,decide_eq_true e]
    rfl
   rw[e1,valV_pos (by rw[h1,e])]
   refine⟨(fun z=>by cases z),fun x tm z=>⟨t,by rw[e2],?_⟩⟩
   rw[Option.some.inj z]at g
   exact g
  ·have e1:lookH (p::hs) n=lookH hs n:=by
    unfold lookH
    rw[List.find?_cons,decide_eq_false e]
   rw[e1,valV_neg (fun z=>e (Sum.inl.inj (h1.symm.trans z)))]
   exact ih
 | [],_::_,h=>h.elim
 | _::_,[],h=>h.elim
theorem HoR.snoc {H:Hp} {n:Int} {x:Str} {tm:Int} {t:Addr} (g:H t=some (.tup [.str x,.int tm])):∀ {hs:List (Int × (Str × Int))} {hk:List (Key × V)},HoR H hs hk->HoR H (hs++[(n,(x,tm))]) (hk++[(Sum.inl n,.ref t)])
 | [],[],_=>⟨rfl,⟨t,rfl,g⟩,trivial⟩
 | _::_,_::_,⟨h1,h2,h3⟩=>⟨h1,h2,HoR.snoc g h3⟩
 | [],_::_,h=>h.elim
 | _::_,[],h=>h.elim
def dropH (hs:List (Int × (Str × Int))) (n:Int):List (Int × (Str × Int)):=hs.filter fun p=>decide (p.1≠n)
theorem HoR.drop {H:Hp} {n:Int}:∀ {hs:List (Int × (Str × Int))} {hk:List (Key × V)},HoR H hs hk->HoR H (dropH hs n) (dropK hk (Sum.inl n))
 | [],[],_=>trivial
 | p::hs,r::hk,h=>by
  obtain⟨h1,h2,h3⟩:=h
  have ih:=HoR.drop (n:=n) h3
  unfold dropH dropK at ih ⊢
  rw[List.filter_cons,List.filter_cons]
  by_cases e:p.1=n
  ·rw[if_neg (by rw[decide_eq_true_eq]; exact fun z=>z e),if_neg (by rw[decide_eq_true_eq,h1,e]; exact fun z=>z rfl)]
   exact ih
  ·rw[if_pos (show decide (p.1≠n)=true from decide_eq_true e),if_pos (show decide (r.1≠Sum.inl n)=true from decide_eq_true (fun z=>e (Sum.inl.inj (h1.symm.trans z))))]
   exact⟨h1,h2,ih⟩
 | [],_::_,h=>h.elim
 | _::_,[],h=>h.elim
theorem HoR.len {H:Hp}:∀ {hs:List (Int × (Str × Int))} {hk:List (Key × V)},HoR H hs hk->hk.length=hs.length
 | [],[],_=>rfl
 | _::_,_::_,⟨_,_,h3⟩=>by rw[List.length_cons,List.length_cons,HoR.len h3]
 | [],_::_,h=>h.elim
 | _::_,[],h=>h.elim
theorem dens_flt {H:Hp} {f:Int->PyData} {p:Int->Bool}:∀ {ms:List Int} {xs:List V},Dens H (ms.map f) xs->Dens H ((ms.filter p).map f) (((List.range xs.length).filter fun j=>p (ms.getD j 0)).map fun j=>xs.getD j .non)
 | [],xs,h=>by
  have h:Dens H [] xs:=h
  simp only[Dens]at h
  subst h
  simp only[List.filter_nil,List.map_nil,List.length_nil,List.range_zero,Dens]
 | m::ms,xs,h=>by
  rw[List.map_cons]at h
  simp only[Dens]at h
  obtain⟨x,r,rfl,h1,h2⟩:=h
  have ih:=dens_flt (p:=p) h2
  rw[List.length_cons,List.range_succ_eq_map,List.filter_cons,List.filter_cons,List.filter_map]
  have e0:((m::ms).getD 0 0)=m:=rfl
  have e1:((fun j=>p ((m::ms).getD j 0)) ∘ Nat.succ)=fun j=>p (ms.getD j 0):=rfl
  rw[e0,e1]
  cases hp:p m with
  | true=>
   rw[if_pos rfl,if_pos rfl,List.map_cons,List.map_cons,List.map_map]
   simp only[Dens]
   exact⟨x,_,rfl,h1,ih⟩
  | false=>
   rw[if_neg (by decide),if_neg (by decide),List.map_map]
   exact ih
theorem sorted_uniq {a b:List Int} (h:List.Perm a b) (ha:a.Pairwise (· <= ·)) (hb:b.Pairwise (· <= ·)):a=b:=List.Perm.eq_of_pairwise (fun x y _ _ h1 h2=>by omega) ha hb h
section
variable {P:Program} {w:World} {K:PySem.W.Frag} {mg:Str->Option Value} {base:Heap} {A:Ad}
theorem sc_Queue_letters:FnScope ["self"] ["self"] (defScope s_q_letters):=‹0›
theorem ok_q_letters {f:Addr} {fd:FuncData} (F:Fun K "letters" "Queue.letters" s_q_letters f fd) (T:TxtQ K mg A) (mB_letters:‹11› A.book "letters" 2 ["self"] (sp_letters A.book)):‹9› 3 f fd ["self"] (sp_q_letters A):=by
 refine F.okX sc_Queue_letters (fun vs H Q E h=>?_) (fun cdv A' outer s H vs Q E hr h=>?_)
 ·obtain⟨L,q,rfl,_⟩:=h
  rfl
 ·obtain⟨L,q,rfl,hq,hl,qq⟩:=h
  refine⟨_,@pss_one _ _ _ (@ps_ret _ _ _ _ (@pe_me0 _ _ _ _ _ _ _ _ _ _ _ _ mB_letters T.cl_Book ‹15› passN ‹32› ⋯)),?_⟩
  obtain⟨dx,h1⟩:=hq.self
  obtain⟨db,h2⟩:=hq.book.self
  exact⟨_,rfl,L.qu,_,dx,_,_,rfl,h1,T.cl_Queue,T.f_book,rfl,L.bk,db,_,rfl,h2,rfl,L.bk,L.de,L.dp,q.B,rfl,hq.book,hl,qq⟩
theorem sc_Queue_coming:FnScope ["self"] ["self"] (defScope s_q_coming):=‹0›
theorem ok_q_coming {f:Addr} {fd:FuncData} (F:Fun K "coming" "Queue.coming" s_q_coming f fd) (T:TxtQ K mg A):‹9› 1 f fd ["self"] (sp_q_coming A):=by
 refine F.okX sc_Queue_coming (fun vs H Q E h=>?_) (fun cdv A' outer s H vs Q E hr h=>?_)
 ·obtain⟨L,q,rfl,_⟩:=h
  rfl
 ·obtain⟨L,q,rfl,hq,qq⟩:=h
  refine⟨_,@pss_one _ _ _ (@ps_ret _ _ _ _ (@pe_fld _ _ _ _ _ ‹32› (by rfl))),?_⟩
  obtain⟨dx,h1⟩:=hq.self
  obtain⟨db,h2⟩:=hq.book.self
  exact⟨_,rfl,L.qu,_,dx,_,_,rfl,h1,T.cl_Queue,T.f_book,rfl,L.bk,_,db,_,_,rfl,h2,T.cl_Book,T.f_upcoming,rfl,qq⟩
theorem sc_Queue_free_letters:FnScope ["self"] ["self"] (defScope s_q_free):=‹0›
set_option maxHeartbeats 1000000 in
theorem ok_q_free {f:Addr} {fd:FuncData} (F:Fun K "free_letters" "Queue.free_letters" s_q_free f fd) (T:TxtQ K mg A) (mB_letters:‹11› A.book "letters" 2 ["self"] (sp_letters A.book)):‹9› 3 f fd ["self"] (sp_q_free A):=by
 refine F.okX sc_Queue_free_letters (fun vs H Q E h=>?_) (fun cdv A' outer s H vs Q E hr h=>?_)
 ·obtain⟨L,q,rfl,_⟩:=h
  rfl
 ·obtain⟨L,q,rfl,hq,hl,qq⟩:=h
  refine⟨_,@pss_one _ _ _ (@ps_ret _ _ _ _ (@pe_comp _ _ _ _ _ _ _ _ _ _ _ ["letter"] [("self",0)] (by rfl) (@pi_listK _ K _ _ _ (@pe_me0 _ _ _ _ _ _ _ _ _ _ _ _ mB_letters T.cl_Book ‹15› passN ‹32› ⋯) ⋯) (fun C s2 H2 ex=>(@pg_name _ _ (0) _ (show List.Nodup (["letter","self"]:List Str) by decide +kernel) (by rfl) (Or.inl (by rfl)) ⋯)) (fun C s2 H2 ex=>(@pif_one _ _ _ (@pt_cmp _ _ _ _ _ _ (@pc_dnotin _ _ _ _ _ (hu1 hr.units) ‹36› (@pe_fldK K _ _ _ _ _ ‹21› (by rfl) ⋯)) ⋯))) (fun C s2 H2 ex=>‹20›) ⋯ ⋯ ⋯ ⋯)),?_⟩
  obtain⟨dx,h1⟩:=hq.self
  obtain⟨db,h2⟩:=hq.book.self
  obtain⟨hk,h3,h4⟩:=hq.held
  refine⟨_,rfl,L.qu,_,dx,_,_,rfl,h1,T.cl_Queue,T.f_book,rfl,L.bk,db,_,rfl,h2,rfl,L.bk,L.de,L.dp,q.B,rfl,hq.book,hl,fun ms perm pw p H1 S1 d1=>?_⟩
  have d1':=d1
  simp only[Den]at d1'
  obtain⟨_,xs,e1,g1,dx1⟩:=d1'
  cases e1
  have lx:=dx1.length
  rw[List.length_map]at lx
  have pl:=perm.length_eq
  rw[List.length_map]at pl
  refine⟨p,rfl,⟨_,SqL.of g1⟩,?_⟩
  refine comp_flt (src_list (K:=K) (SqL.of g1)) (by rw[lx,pl]; exact Nat.le_of_lt (Nat.lt_trans hl (by decide))) (fun j=>freeB q.hs (ms.getD j 0)) (fun j=>xs.getD j .non) (fun σ=>∃ z,σ = [z,some (.ref L.qu)]) ?z0 ?_ ?_
  case z0=>exact⟨none,rfl⟩
  ·intro j x σc H3 hj hσ s3 hx Q1 Q2 Q3 h2' h3'
   obtain⟨z,rfl⟩:=hσ
   obtain⟨d,hd,dn⟩:=dx1.get hx
   rw[List.getElem?_map]at hd
   cases ej:ms[j]? with
   | none=>rw[ej]at hd; cases hd
   | some n=>
    rw[ej]at hd
    cases (Option.some.inj hd:letF q.B.es n=d)
    obtain⟨t,b,rfl,gt,gb⟩:=let_form dn
    have eg:xs.getD j .non = .ref t:=by rw[List.getD_eq_getElem?_getD,hx]; rfl
    have em:ms.getD j 0=n:=by rw[List.getD_eq_getElem?_getD,ej]; rfl
    rw[eg,em]at h2'
    rw[em]at h3'
    have dg:DGet H3 L.hd (.int n) (valV hk (Sum.inl n)):=DGet.k (k:=Sum.inl n) (s3 _ _ (S1 _ _ h3))
    refine⟨_,rfl,t,_,_,.int n,rfl,rfl,SqT.of (s3 _ _ gt),atI_pos (by decide) rfl,_,rfl,L.qu,_,dx,_,_,rfl,s3 _ _ (S1 _ _ h1),T.cl_Queue,T.f_holders,rfl,L.hd,_,rfl,dg,_,rfl,?_⟩
    cases el:lookH q.hs n with
    | none=>
     rw[(h4.look (n:=n)).1 el]
     exact iteT ⟨_,rfl,h2' _ ⟨_,rfl⟩ (by unfold freeB; rw[el]; rfl)⟩
    | some o=>
     obtain⟨t',ev,_⟩:=(h4.look (n:=n)).2 o.1 o.2 el
     rw[ev]
     exact iteF (h3' _ ⟨_,rfl⟩ (by unfold freeB; rw[el]; rfl))
  intro D H2 hD S2 g2
  refine qq ms perm pw D H2 (S1.trans S2) ?_
  simp only[Den]
  exact⟨D,_,rfl,g2,(dens_flt dx1).same S2⟩
theorem sc_Queue_ready:FnScope ["self"] ["self"] (defScope s_q_ready):=‹0›
set_option maxHeartbeats 1000000 in
theorem ok_q_ready {f:Addr} {fd:FuncData} (F:Fun K "ready" "Queue.ready" s_q_ready f fd) (T:TxtQ K mg A) (mQ_free_letters:‹11› A.queue "free_letters" 3 ["self"] (sp_q_free A)):‹9› 4 f fd ["self"] (sp_q_pick A ltB):=by
 refine F.okX sc_Queue_ready (fun vs H Q E h=>?_) (fun cdv A' outer s H vs Q E hr h=>?_)
 ·obtain⟨L,q,rfl,_⟩:=h
  rfl
 ·obtain⟨L,q,rfl,hq,hl,qq⟩:=h
  refine⟨_,@pss_one _ _ _ (@ps_ret _ _ _ _ (@pe_comp _ _ _ _ _ _ _ _ _ _ _ ["letter"] [("self",0)] (by rfl) (@pi_listK _ K _ _ _ (@pe_me0 _ _ _ _ _ _ _ _ _ _ _ _ mQ_free_letters T.cl_Queue ‹15› passN ‹20› ⋯) ⋯) (fun C s2 H2 ex=>(@pg_name _ _ (0) _ (show List.Nodup (["letter","self"]:List Str) by decide +kernel) (by rfl) (Or.inl (by rfl)) ⋯)) (fun C s2 H2 ex=>(@pif_one _ _ _ (@pt_cmpR _ _ _ _ _ _ _ _ op_lt ‹36› (@pe_fldK K _ _ _ _ _ ‹21› (by rfl) ⋯) (nomark _)))) (fun C s2 H2 ex=>‹36›) ⋯ ⋯ ⋯ ⋯)),?_⟩
  obtain⟨dx,h1⟩:=hq.self
  refine⟨_,rfl,L.qu,dx,_,rfl,h1,rfl,L,q,rfl,hq,hl,fun ms0 perm pw p H1 S1 d1=>?_⟩
  obtain⟨ms,hms⟩:∃ ms,ms=ms0.filter (freeB q.hs):=⟨_,rfl⟩
  rw[<- hms]at d1
  have d1':=d1
  simp only[Den]at d1'
  obtain⟨_,xs,e1,g1,dx1⟩:=d1'
  cases e1
  have lx:=dx1.length
  rw[List.length_map]at lx
  have pl:=perm.length_eq
  rw[List.length_map]at pl
  have pl2:ms.length<=ms0.length:=by rw[hms]; exact List.length_filter_le _ _
  refine⟨p,rfl,⟨_,SqL.of g1⟩,?_⟩
  refine comp_flt (src_list (K:=K) (SqL.of g1)) (by rw[lx]; exact Nat.le_of_lt (Nat.lt_of_le_of_lt (show _<=q.B.es.length by omega) (Nat.lt_trans hl (by decide)))) (fun j=>ltB (timesE q.B.es (ms.getD j 0)) q.tries) (fun j=>V.int (ms.getD j 0)) (fun σ=>∃ z,σ = [z,some (.ref L.qu)]) ?z0 ?_ ?_
  case z0=>exact⟨none,rfl⟩
  ·intro j x σc H3 hj hσ s3 hx Q1 Q2 Q3 h2' h3'
   obtain⟨z,rfl⟩:=hσ
   obtain⟨d,hd,dn⟩:=dx1.get hx
   rw[List.getElem?_map]at hd
   cases ej:ms[j]? with
   | none=>rw[ej]at hd; cases hd
   | some n=>
    rw[ej]at hd
    cases (Option.some.inj hd:letF q.B.es n=d)
    obtain⟨t,b,rfl,gt,gb⟩:=let_form dn
    have eg:ms.getD j 0=n:=by rw[List.getD_eq_getElem?_getD,ej]; rfl
    rw[eg]at h2' h3'
    refine⟨_,rfl,t,_,_,.int (timesE q.B.es n),rfl,rfl,SqT.of (s3 _ _ gt),atI_pos (by decide) rfl,_,rfl,L.qu,_,dx,_,_,rfl,s3 _ _ (S1 _ _ h1),T.cl_Queue,T.f_tries,rfl,_,_,rfl,rfl,_,rfl,?_⟩
    show if ltB (timesE q.B.es n) q.tries=true then _ else _
    cases hb:ltB (timesE q.B.es n) q.tries with
    | true=>exact iteT ⟨_,rfl,t,_,_,.int n,rfl,rfl,SqT.of (s3 _ _ gt),atI_pos (by decide) rfl,h2' _ ⟨_,rfl⟩ hb⟩
    | false=>exact iteF (h3' _ ⟨_,rfl⟩ hb)
  intro D H2 hD S2 g2
  rw[lx,flt_list ms (fun n=>ltB (timesE q.B.es n) q.tries)]at g2
  rw[hms]at g2
  exact qq ms0 perm pw D H2 (S1.trans S2) (S1.free hD) g2
theorem sc_Queue_sizes:FnScope ["self"] ["self"] (defScope s_q_sizes):=‹0›
set_option maxHeartbeats 1000000 in
theorem ok_q_sizes {f:Addr} {fd:FuncData} (F:Fun K "sizes" "Queue.sizes" s_q_sizes f fd) (T:TxtQ K mg A) (c_segment_name:‹2›) (c_segments_on:‹10› "segments_on" 3 ["disk"] (sp_segments_on A)) (mD_size:‹11› A.disk "size" 4 ["self","name"] (sp_size A.disk A.badName A.missing)):‹9› 5 f fd ["self"] (sp_q_sizes A):=by
 refine F.okX sc_Queue_sizes (fun vs H Q E h=>?_) (fun cdv A' outer s H vs Q E hr h=>?_)
 ·obtain⟨L,q,ns,rfl,_⟩:=h
  rfl
 ·obtain⟨L,q,ns,rfl,hq,hk,hn,hl,qq⟩:=h
  refine⟨_,@pss_one _ _ _ (@ps_ret _ _ _ _ (@pe_comp _ _ _ _ _ _ _ _ _ _ _ ["segment"] [("self",0)] (by rfl) (@pi_listK _ K _ _ _ (@pe_fn _ _ _ _ _ _ _ _ _ _ _ c_segments_on ‹15› passS ‹50› ⋯ ⋯ ⋯ ⋯) ⋯) (fun C s2 H2 ex=>(@pg_name _ _ (0) _ (show List.Nodup (["segment","self"]:List Str) by decide +kernel) (by rfl) (Or.inl (by rfl)) ⋯)) ‹31› (fun C s2 H2 ex=>(@pe_me _ _ _ _ _ _ _ _ _ _ _ _ _ _ _ mD_size T.cl_Disk ‹15› passN (@pe_fldK K _ _ _ _ _ ‹21› (by rfl) ⋯) (@pa_Call _ _ _ _ _ _ _ _ (@pe_fn _ _ _ _ _ _ _ _ _ _ _ c_segment_name ‹15› passN ‹37› ⋯ ⋯ ⋯ ⋯) (@pa_nil _)) ⋯ ⋯ ⋯)) ⋯ ⋯ ⋯ ⋯)),?_⟩
  obtain⟨dx,h1⟩:=hq.self
  refine⟨_,rfl,L.qu,_,dx,_,_,rfl,h1,T.cl_Queue,T.f_disk,rfl,L.dk,L.df,L.kvs,q.D,ns,rfl,hq.disk,hk,hn,hl,fun ms perm pw hg p H1 S1 hp g1=>?_,fun ms perm pw hg=>absurd (qq ms perm pw).1 hg⟩
  obtain⟨_,qs⟩:=qq ms perm pw
  have pl:=perm.length_eq
  refine⟨p,rfl,⟨_,SqL.of g1⟩,?_⟩
  refine comp_src (src_list (K:=K) (SqL.of g1)) (by rw[List.length_map,pl]; exact Nat.le_of_lt (Nat.lt_trans hl (by decide))) (fun i y _=>∃ n,ms[i]? = some n/\y = .int ((sizeS q.D n:Nat):Int)) (fun _ _ _ _ _ h=>h) (fun σ=>∃ z,σ = [z,some (.ref L.qu)]) ?z0 ?_ ?_
  case z0=>exact⟨none,rfl⟩
  ·intro i x σc H3 hi hσ s3 hx Q' hQ'
   obtain⟨z,rfl⟩:=hσ
   rw[List.getElem?_map]at hx
   cases e:ms[i]? with
   | none=>rw[e]at hx; cases hx
   | some n=>
    rw[e]at hx
    cases hx
    have nin:n∈ns:=perm.mem_iff.mp (List.mem_of_getElem? e)
    obtain⟨bs,hbs⟩:=lookF_in (fs:=q.D.fs) (n:=segN n) (by rw[hk]; exact List.mem_map_of_mem nin)
    have S13:=S1.trans s3
    obtain⟨dd,h2⟩:=hq.disk.self
    refine⟨_,rfl,L.qu,_,dx,_,_,rfl,S13 _ _ h1,T.cl_Queue,T.f_disk,rfl,L.dk,dd,_,rfl,S13 _ _ h2,rfl,_,rfl,n,rfl,hn n nin,nil_go (use_size (hq.disk.same S13) (hn n nin) hbs fun H4 S4=>?_)⟩
    refine hQ' _ _ _ ⟨_,rfl⟩ S4 ⟨n,e,?_⟩
    unfold sizeS
    rw[hbs]
    rfl
  intro D ys H2 hD S2 g2 hlen hR
  have ey:ys=(ms.map fun n=>((sizeS q.D n:Nat):Int)).map V.int:=by
   apply List.ext_getElem?
   intro j
   cases ej:ys[j]? with
   | none=>
    have h1:=List.getElem?_eq_none_iff.mp ej
    rw[List.getElem?_eq_none_iff.mpr]
    rw[List.length_map,List.length_map]
    rw[List.length_map]at hlen
    omega
   | some y=>
    obtain⟨n,e1,rfl⟩:=hR j y ej
    rw[List.getElem?_map,List.getElem?_map,e1]
    rfl
  rw[ey]at g2
  exact qs D H2 (S1.trans S2) g2
end
end Qh
end
section
namespace Qh
open PySem L2
abbrev s_q_full:Stmt:=inClass (top 53) 20
abbrev s_q_begin:Stmt:=inClass (top 53) 21
abbrev s_q_dropf:Stmt:=inClass (top 53) 22
abbrev s_q_write:Stmt:=inClass (top 53) 19
def rowsB (rs:List Rw):List Int:=(rs.map fun r=>rowB r.1 r.2.1 r.2.2).flatten
def lastF (q:Qs):List Int:=(lookF q.D.fs (segN q.last)).getD []
def fullB (q:Qs) (bs:List Int):Bool:=!decide (q.B.up > 999999) && decide ((bs.length:Int) ≥ q.most)
def beginQ (q:Qs):Qs:={ q with D:=setN (mkN q.D (segN (q.last+1))) (segN (q.last+1)) (rowB "from" q.B.up []) 7,last:=q.last+1 }
def nextQ (q:Qs):Qs:=if fullB q (lastF q)=true then beginQ q else q
def addQ (q:Qs) (bs:List Int) (B:Bk):Qs:={ q with D:=setN q.D (segN q.last) (lastF q++bs) bs.length,B:=B }
structure WOk (q:Qs) (k:Nat):Prop where
 left:q.D.left=none
 last:numOk q.last
 nxt:numOk (q.last+1)
 here:∃ bs,lookF q.D.fs (segN q.last)=some bs
 new:lookF q.D.fs (segN (q.last+1))=none
 len:∀ n bs,lookF q.D.fs n=some bs->bs.length<=100000
 files:q.D.fs.length<900
 up:0<=q.B.up
 ents:q.B.es.length+q.B.parts.length+k<900
def sp_q_full (A:Ad):Sp:=fun vs H Q _=>∃ (L:Pl) (q:Qs) (wr:Bool) (bs:List Int),vs=[.ref L.qu]/\QueueW A H L q wr/\numOk q.last/\lookF q.D.fs (segN q.last)=some bs/\∀ H',Same H H'->Q (.bl (fullB q bs)) H'
def sp_q_begin (A:Ad):Sp:=fun vs H Q _=>∃ (L:Pl) (q:Qs) (wr:Bool),vs=[.ref L.qu]/\QueueW A H L q wr/\q.D.left=none/\numOk (q.last+1)/\lookF q.D.fs (segN (q.last+1))=none/\q.D.fs.length<1000/\(∀ n bs,lookF q.D.fs n=some bs->bs.length<=100000)/\0<=q.B.up/\q.B.up<=999999/\∀ L' H',Step L L' H H'->QueueW A H' L' (beginQ q) wr->Q .non H'
def sp_q_dropf (A:Ad):Sp:=fun vs H Q _=>∃ (L:Pl) (q:Qs) (wr:Bool) (bs:List Int),vs=[.ref L.qu]/\QueueW A H L q wr/\q.D.left=none/\numOk q.first/\lookF q.D.fs (segN q.first)=some bs/\∀ L' H',Step L L' H H'->QueueW A H' L' { q with D:=dropN q.D (segN q.first),first:=q.first+1 } wr->Q .non H'
def sp_q_write (A:Ad):Sp:=fun vs H Q _=>∃ (L:Pl) (q:Qs) (a:Addr) (rs:List Rw) (B':Bk),vs=[.ref L.qu,.ref a]/\QueueW A H L q false/\WOk q rs.length/\¬ isQu L a/\Den H (.list (rs.map rowR)) (.ref a)/\(∀ r∈rs,isRowD (rowR r)=true)/\foldB (nextQ q).last (nextQ q).B rs=some B'/\∀ L' H',Step L L' H H'->QueueW A H' L' (addQ (nextQ q) (rowsB rs) B') false->Q .non H'
section
variable {P:Program} {w:World} {K:PySem.W.Frag} {mg:Str->Option Value} {base:Heap} {A:Ad}
theorem sc_Queue_is_last_full:FnScope ["self"] ["self"] (defScope s_q_full):=‹0›
theorem ok_q_full {f:Addr} {fd:FuncData} (F:Fun K "is_last_full" "Queue.is_last_full" s_q_full f fd) (T:TxtQ K mg A) (c_segment_name:‹2›) (mD_size:‹11› A.disk "size" 4 ["self","name"] (sp_size A.disk A.badName A.missing)):‹9› 5 f fd ["self"] (sp_q_full A):=by
 obtain⟨_,hc_HIGHEST_NUMBER⟩:=T.c_HIGHEST_NUMBER
 refine F.okX sc_Queue_is_last_full (fun vs H Q E h=>?_) (fun cdv A' outer s H vs Q E hr h=>?_)
 ·obtain⟨L,q,wr,bs,rfl,_⟩:=h
  rfl
 ·obtain⟨L,q,wr,bs,rfl,hq,hn,hbs,qq⟩:=h
  refine⟨_,@pss_cons _ _ _ _ _ (@ps_if _ _ _ _ _ _ _ _ (@pt_cmpR _ _ _ _ _ _ _ _ op_gt (@pe_fld _ _ _ _ _ ‹32› (by rfl)) (@pe_glob _ _ (.int 999999) _ _ (by rfl) hc_HIGHEST_NUMBER ⟨_,rfl⟩ ⋯) (nomark _)) ‹27› (@pss_nil _)) (@pss_one _ _ _ (@ps_ret _ _ _ _ (@pe_cmpR _ _ _ _ _ _ _ _ op_ge (@pe_me _ _ _ _ _ _ _ _ _ _ _ _ _ _ _ mD_size T.cl_Disk ‹15› passS ‹32› (@pa_Call _ _ _ _ _ _ _ _ (@pe_fn _ _ _ _ _ _ _ _ _ _ _ c_segment_name ‹15› passN ‹50› ⋯ ⋯ ⋯ ⋯) (@pa_nil _)) ⋯ ⋯ ⋯) ‹32› (nomark _)))),?_⟩
  obtain⟨dx,h1⟩:=hq.self
  obtain⟨db,h2⟩:=hq.book.self
  obtain⟨dd,h3⟩:=hq.disk.self
  unfold fullB at qq
  refine⟨_,rfl,L.qu,_,dx,_,_,rfl,h1,T.cl_Queue,T.f_book,rfl,L.bk,_,db,_,_,rfl,h2,T.cl_Book,T.f_upcoming,rfl,_,_,rfl,rfl,_,rfl,?_⟩
  show if decide (q.B.up > 999999)=true then _ else _
  by_cases hu:q.B.up > 999999
  ·rw[if_pos (decide_eq_true hu)]
   rw[decide_eq_true hu]at qq
   exact qq H (Same.refl H)
  ·rw[if_neg (by rw[decide_eq_true_eq]; exact hu)]
   rw[decide_eq_false hu]at qq
   refine go_next rfl ?_
   refine⟨_,rfl,L.qu,_,dx,_,_,rfl,h1,T.cl_Queue,T.f_disk,rfl,L.dk,dd,_,rfl,h3,rfl,_,rfl,L.qu,_,dx,_,_,rfl,h1,T.cl_Queue,T.f_last,rfl,q.last,rfl,hn,nil_go (use_size hq.disk hn hbs fun H1 S1=>?_)⟩
   exact⟨_,rfl,L.qu,_,dx,_,_,rfl,S1 _ _ h1,T.cl_Queue,T.f_most,rfl,_,_,rfl,rfl,qq H1 S1⟩
theorem sc_Queue_begin_segment:FnScope ["self","some","name"] ["self"] (defScope s_q_begin):=‹0›
set_option maxHeartbeats 1000000 in
theorem ok_q_begin {f:Addr} {fd:FuncData} (F:Fun K "begin_segment" "Queue.begin_segment" s_q_begin f fd) (T:TxtQ K mg A) (c_segment_name:‹2›) (c_row_bytes:‹10› "row_bytes" 4 ["row"] (sp_row_bytes A.badRow)) (mD_make:‹11› A.disk "make" 3 ["self","name"] (sp_make A.disk A.badName A.there A.stopped)) (mD_add:‹4›):‹9› 5 f fd ["self"] (sp_q_begin A):=by
 refine F.okX sc_Queue_begin_segment (fun vs H Q E h=>?_) (fun cdv A' outer s H vs Q E hr h=>?_)
 ·obtain⟨L,q,wr,rfl,_⟩:=h
  rfl
 ·obtain⟨L,q,wr,rfl,hq,hl,hn,hno,hf,hz,u0,u1,qq⟩:=h
  refine⟨_,@pss_cons _ _ _ _ _ (@ps_set _ _ (1) _ _ _ _ sc_Queue_begin_segment.nd (by rfl) (by first | exact Or.inl (by rfl) | exact Or.inr (by rfl)) (@pe_fn _ _ _ _ _ _ _ _ _ _ _ c_row_bytes ‹15› passS (@pa_Tuple _ _ _ _ _ _ _ (@pe_tup _ _ _ _ _ (@pa_Constant _ _ _ _ _ _ _ (@pe_str _ _ _ _) (@pa_Attribute _ _ _ _ _ _ _ (@pe_fld _ _ _ _ _ ‹32› (by rfl)) (@pa_Tuple _ _ _ _ _ _ _ (@pe_tup _ _ _ _ _ (@pa_nil _)) (@pa_nil _))))) (@pa_nil _)) ⋯ ⋯ ⋯ ⋯) ⋯ ⋯) (@pss_cons _ _ _ _ _ (@ps_set _ _ (2) _ _ _ _ sc_Queue_begin_segment.nd (by rfl) (by first | exact Or.inl (by rfl) | exact Or.inr (by rfl)) (@pe_fn _ _ _ _ _ _ _ _ _ _ _ c_segment_name ‹15› passN (@pa_BinOp _ _ _ _ _ _ _ _ (@pe_op _ _ _ _ _ _ _ _ op_add ‹32› ‹24›) (@pa_nil _)) ⋯ ⋯ ⋯ ⋯) ⋯ ⋯) (@pss_cons _ _ _ _ _ (ps_expr (pe_me mD_make T.cl_Disk ‹15› passS (pe_fld (pv 0) (by rfl)) (pa_Name (pv 2) pa_nil))) (@pss_cons _ _ _ _ _ (ps_expr (pe_me mD_add T.cl_Disk ‹15› passS (pe_fld (pv 0) (by rfl)) (pa_Name (pv 2) (pa_Name (pv 1) pa_nil)))) (@pss_one _ _ _ (@ps_fldaug _ _ _ _ _ _ _ _ _ _ ‹20› ‹24› in_add))))),?_⟩
  obtain⟨dx,h1⟩:=hq.self
  obtain⟨db,h2⟩:=hq.book.self
  refine⟨_,rfl,L.qu,_,dx,_,_,rfl,h1,T.cl_Queue,T.f_book,rfl,L.bk,_,db,_,_,rfl,h2,T.cl_Book,T.f_upcoming,rfl,le_size,fun p0 hp0=>⟨le_size,fun p1 hp1=>?_⟩⟩
  have S1:=same_upd (o:=.tup []) hp0
  have g0:upd H p0 (.tup []) p0=some (.tup []):=upd_same
  generalize upd H p0 (.tup [])=H1 at S1 g0 hp1 ⊢
  have S2:=same_upd (o:=.tup [.str "from",.int q.B.up,.ref p0]) hp1
  have g1:upd H1 p1 (.tup [.str "from",.int q.B.up,.ref p0]) p1=some (.tup [.str "from",.int q.B.up,.ref p0]):=upd_same
  generalize upd H1 p1 (.tup [.str "from",.int q.B.up,.ref p0])=H2 at S2 g1 ⊢
  have fo:=from_ok u0 u1
  refine nil_go (use_rb (r:=("from",q.B.up,[])) ?_ fo fun pb H3 S3 g3=>?_)
  ·unfold rowR rowT
   simp only[Den,Dens]
   exact⟨p1,_,rfl,g1,_,_,rfl,rfl,_,_,rfl,rfl,_,_,rfl,⟨p0,[],rfl,S2 _ _ g0,rfl⟩,rfl⟩
  have S03:=S1.trans (S2.trans S3)
  have hq3:=hq.same S03
  refine⟨_,rfl,L.qu,_,dx,_,_,rfl,S03 _ _ h1,T.cl_Queue,T.f_last,rfl,_,_,rfl,rfl,q.last+1,rfl,hn,?_⟩
  obtain⟨dd,h4⟩:=hq3.disk.self
  refine⟨_,rfl,L.qu,_,dx,_,_,rfl,S03 _ _ h1,T.cl_Queue,T.f_disk,rfl,L.dk,dd,_,rfl,h4,rfl,_,rfl,nil_go (use_make hq3.disk hl hn hf hno fun kvs' H4 f4 w4 hD4=>?_)⟩
  obtain⟨hq4,st4⟩:=hq3.toDisk f4 w4 hD4
  obtain⟨dx4,h14⟩:=hq4.self
  obtain⟨dd4,h44⟩:=hq4.disk.self
  have hlk:lookF (mkN q.D (segN (q.last+1))).fs (segN (q.last+1))=some []:=by
   show lookF (q.D.fs++[(segN (q.last+1),[])]) (segN (q.last+1))=some []
   rw[look_app _ _ _ _ hno,if_pos rfl]
  refine⟨_,rfl,L.qu,_,dx4,_,_,rfl,h14,T.cl_Queue,T.f_disk,rfl,L.dk,dd4,_,rfl,h44,rfl,_,rfl,_,rfl,nil_go (use_add hD4 rfl hn hlk (fun m bs hm=>?_) (st4.tup _ _ g3) (row_bytes_ok fo) (by rw[rowB_len]; show 7<=100000; decide) fun H5 f5 hD5=>?_)⟩
  ·have hm:lookF (q.D.fs++[(segN (q.last+1),[])]) m=some bs:=hm
   rw[look_app _ _ _ _ hno]at hm
   split at hm
   ·cases hm
    exact Nat.zero_le _
   ·exact hz m bs hm
  obtain⟨hq5,st5⟩:=hq4.toDisk f5 (fun b h=>.inl h) hD5
  obtain⟨dx5,h15⟩:=hq5.self
  have hlen:(rowB "from" q.B.up []).length=7:=by rw[rowB_len]; rfl
  refine⟨_,rfl,L.qu,_,dx5,_,_,rfl,h15,T.cl_Queue,T.f_last,rfl,_,_,rfl,rfl,dx5,_,h15,by show 10<1000; decide,?_⟩
  obtain⟨hq6,st6⟩:=hq5.fields (dx:=dx5) (beginQ q) wr (by rw[hlen]; rfl) rfl rfl
  exact qq _ _ ((Same.step S03).trans (st4.trans (st5.trans st6))) hq6
theorem sc_Queue_drop_first:FnScope ["self"] ["self"] (defScope s_q_dropf):=‹0›
set_option maxHeartbeats 1000000 in
theorem ok_q_dropf {f:Addr} {fd:FuncData} (F:Fun K "drop_first" "Queue.drop_first" s_q_dropf f fd) (T:TxtQ K mg A) (c_segment_name:‹2›) (mD_drop:‹11› A.disk "drop" 4 ["self","name"] (sp_drop A.disk A.badName A.missing A.stopped)):‹9› 5 f fd ["self"] (sp_q_dropf A):=by
 refine F.okX sc_Queue_drop_first (fun vs H Q E h=>?_) (fun cdv A' outer s H vs Q E hr h=>?_)
 ·obtain⟨L,q,wr,bs,rfl,_⟩:=h
  rfl
 ·obtain⟨L,q,wr,bs,rfl,hq,hl,hn,hb,qq⟩:=h
  refine⟨_,@pss_cons _ _ _ _ _ (ps_expr (pe_me mD_drop T.cl_Disk ‹15› passS (pe_fld (pv 0) (by rfl)) (pa_Call (pe_fn c_segment_name ‹15› passN (pa_Attribute (pe_fld (pv 0) (by rfl)) pa_nil)) pa_nil))) (@pss_one _ _ _ (@ps_fldaug _ _ _ _ _ _ _ _ _ _ ‹20› ‹24› in_add)),?_⟩
  obtain⟨dx,h1⟩:=hq.self
  obtain⟨dd,h4⟩:=hq.disk.self
  refine⟨_,rfl,L.qu,_,dx,_,_,rfl,h1,T.cl_Queue,T.f_disk,rfl,L.dk,dd,_,rfl,h4,rfl,_,rfl,L.qu,_,dx,_,_,rfl,h1,T.cl_Queue,T.f_first,rfl,q.first,rfl,hn,nil_go (use_drop hq.disk hl hn hb fun kvs' H4 f4 w4 hD4=>?_)⟩
  obtain⟨hq4,st4⟩:=hq.toDisk f4 w4 hD4
  obtain⟨dx4,h14⟩:=hq4.self
  refine⟨_,rfl,L.qu,_,dx4,_,_,rfl,h14,T.cl_Queue,T.f_first,rfl,_,_,rfl,rfl,dx4,_,h14,by show 10<1000; decide,?_⟩
  obtain⟨hq6,st6⟩:=hq4.fields (dx:=dx4) { q with D:=dropN q.D (segN q.first),first:=q.first+1 } wr rfl rfl rfl
  exact qq _ _ (st4.trans st6) hq6
end
end Qh
end
section
namespace Qh
open PySem L2
theorem putF_writing {L:Pl} {q:Qs} {a b:Bool}:putF "writing" (.bl b) (quF L q a)=quF L q b:=rfl
theorem rowsB_snoc (rs:List Rw) (r:Rw):rowsB (rs++[r])=rowsB rs++rowB r.1 r.2.1 r.2.2:=by
 unfold rowsB
 rw[List.map_append,List.flatten_append]
 simp
theorem rowsB_len {rs:List Rw} (h:∀ r∈rs,isRowD (rowR r)=true):(rowsB rs).length<=68 * rs.length:=by
 unfold rowsB
 induction rs with
 | nil=>exact Nat.le_refl _
 | cons r rs ih=>
  rw[List.map_cons,List.flatten_cons,List.length_append,rowB_len,List.length_cons]
  have h1:=ih (fun x hx=>h x (List.mem_cons_of_mem _ hx))
  have h2:=row_small (h r List.mem_cons_self)
  omega
theorem rowsB_bytes {rs:List Rw} (h:∀ r∈rs,isRowD (rowR r)=true):∀ b∈rowsB rs,0<=b/\b<=255:=by
 intro b hb
 unfold rowsB at hb
 rw[List.mem_flatten]at hb
 obtain⟨l,hl,hb⟩:=hb
 rw[List.mem_map]at hl
 obtain⟨r,hr,rfl⟩:=hl
 exact row_bytes_ok (h r hr) b hb
theorem begin_look (q:Qs) (h:lookF q.D.fs (segN (q.last+1))=none) (m:Str):lookF (beginQ q).D.fs m=if m=segN (q.last+1) then some (rowB "from" q.B.up []) else lookF q.D.fs m:=by
 show lookF (setA (q.D.fs++[(segN (q.last+1),[])]) (segN (q.last+1)) (rowB "from" q.B.up [])) m=_
 rw[look_set,look_app _ _ _ _ h,look_app _ _ _ _ h]
 by_cases z:m=segN (q.last+1)
 ·rw[if_pos z,if_pos z,if_pos rfl]
  rfl
 ·rw[if_neg z,if_neg z,if_neg z]
structure NOk (q:Qs):Prop where
 left:q.D.left=none
 last:numOk q.last
 here:lookF q.D.fs (segN q.last)=some (lastF q)
 len:∀ n bs,lookF q.D.fs n=some bs->bs.length<=100000
theorem lastF_eq {q:Qs} {bs:List Int} (h:lookF q.D.fs (segN q.last)=some bs):lastF q=bs:=by
 unfold lastF
 rw[h]
 rfl
theorem WOk.next {q:Qs} {k:Nat} (h:WOk q k):NOk (nextQ q)/\(nextQ q).B=q.B:=by
 unfold nextQ
 split
 ·refine⟨⟨rfl,h.nxt,?_,fun n bs e=>?_⟩,rfl⟩
  ·have e:=begin_look q h.new (segN (q.last+1))
   rw[if_pos rfl]at e
   have e2:lastF (beginQ q)=rowB "from" q.B.up []:=lastF_eq e
   rw[e2]
   exact e
  ·rw[begin_look q h.new]at e
   split at e
   ·cases e
    rw[rowB_len]
    decide
   ·exact h.len n bs e
 ·obtain⟨bs,hb⟩:=h.here
  exact⟨⟨h.left,h.last,by rw[lastF_eq hb]; exact hb,h.len⟩,rfl⟩
section
variable {P:Program} {w:World} {K:PySem.W.Frag} {mg:Str->Option Value} {base:Heap} {A:Ad}
theorem sc_Queue_write:FnScope ["self","rows","some","row"] ["self","rows"] (defScope s_q_write):=‹0›
set_option maxHeartbeats 2000000 in
theorem ok_q_write {f:Addr} {fd:FuncData} (F:Fun K "write" "Queue.write" s_q_write f fd) (T:TxtQ K mg A) (c_segment_name:‹2›) (c_row_bytes:‹10› "row_bytes" 4 ["row"] (sp_row_bytes A.badRow)) (c_make_good:‹10› "make_good" 6 ["disk"] (sp_make_good A)) (mD_add:‹4›) (mB_enter:‹11› A.book "enter" 3 ["self","row","segment"] (sp_enter A.book A.broken)) (mQ_is_last_full:‹11› A.queue "is_last_full" 5 ["self"] (sp_q_full A)) (mQ_begin_segment:‹11› A.queue "begin_segment" 5 ["self"] (sp_q_begin A)):‹9› 7 f fd ["self","rows"] (sp_q_write A):=by
 refine F.okX sc_Queue_write (fun vs H Q E h=>?_) (fun cdv A' outer s H vs Q E hr h=>?_)
 ·obtain⟨L,q,a,rs,B',rfl,_⟩:=h
  rfl
 ·obtain⟨L,q,a,rs,B',rfl,hq,ok,na,da,hrs,hfo,qq⟩:=h
  refine⟨_,@pss_cons _ _ _ _ _ (@ps_set _ _ (2) _ _ _ _ sc_Queue_write.nd (by rfl) (by first | exact Or.inl (by rfl) | exact Or.inr (by rfl)) (@pe_tup _ _ _ _ _ (@pa_nil _)) ⋯ ⋯) (@pss_cons _ _ _ _ _ (@ps_for _ _ _ _ _ _ _ _ (ownB own_cx) (by rfl) (@pi_listK _ K _ _ _ ‹21› ⋯) (@pg_name _ _ (3) _ sc_Queue_write.nd (by rfl) (by first | exact Or.inl (by rfl) | exact Or.inr (by rfl)) ⋯) (@pss_one _ _ _ (@ps_set _ _ (2) _ _ _ _ sc_Queue_write.nd (by rfl) (by first | exact Or.inl (by rfl) | exact Or.inr (by rfl)) (@pe_op _ _ _ _ _ _ _ _ op_cat2 ‹25› (@pe_fn _ _ _ _ _ _ _ _ _ _ _ c_row_bytes ‹15› passS (@pa_Name _ _ _ _ _ _ ‹26› (@pa_nil _)) ⋯ ⋯ ⋯ ⋯)) ⋯ ⋯)) ⋯) (@pss_cons _ _ _ _ _ (@ps_if _ _ _ _ _ _ _ _ (@pt_val _ _ _ ‹32› ⋯) (@pss_one _ _ _ (ps_expr (pe_fn c_make_good ‹15› passS (pa_Attribute (pe_fld (pv 0) (by rfl)) pa_nil)))) (@pss_nil _)) (@pss_cons _ _ _ _ _ (@ps_fld _ _ _ _ _ _ _ _ ‹20› (@pe_bl _ _ _ _) (by rfl)) (@pss_cons _ _ _ _ _ (@ps_if _ _ _ _ _ _ _ _ (@pt_val _ _ _ (@pe_me0 _ _ _ _ _ _ _ _ _ _ _ _ mQ_is_last_full T.cl_Queue ‹15› passS ‹20› ⋯) ⋯) (@pss_one _ _ _ (ps_expr (pe_me0 mQ_begin_segment T.cl_Queue ‹15› passS (pv 0)))) (@pss_nil _)) (@pss_cons _ _ _ _ _ (ps_expr (pe_me mD_add T.cl_Disk ‹15› passS (pe_fld (pv 0) (by rfl)) (pa_Call (pe_fn c_segment_name ‹15› passN (pa_Attribute (pe_fld (pv 0) (by rfl)) pa_nil)) (pa_Name (pv 2) pa_nil)))) (@pss_cons _ _ _ _ _ (@ps_fld _ _ _ _ _ _ _ _ ‹20› (@pe_bl _ _ _ _) (by rfl)) (@pss_one _ _ _ (@ps_for _ _ _ _ _ _ _ _ (ownB own_cx) (by rfl) (@pi_listK _ K _ _ _ ‹21› ⋯) (@pg_name _ _ (3) _ sc_Queue_write.nd (by rfl) (by first | exact Or.inl (by rfl) | exact Or.inr (by rfl)) ⋯) (@pss_one _ _ _ (ps_expr (pe_me mB_enter T.cl_Book ‹15› passS (pe_fld (pv 0) (by rfl)) (pa_Name (pv 3) (pa_Attribute (pe_fld (pv 0) (by rfl)) pa_nil))))) ⋯)))))))),?_⟩
  have da':=da
  simp only[Den]at da'
  obtain⟨_,xs,e,ga,dxs⟩:=da'
  cases e
  have lx:=dxs.length
  rw[List.length_map]at lx
  refine⟨le_size,fun p0 hp0=>?_⟩
  have S1:=same_upd (o:=.tup []) hp0
  have g0:upd H p0 (.tup []) p0=some (.tup []):=upd_same
  generalize upd H p0 (.tup [])=H1 at S1 g0 ⊢
  refine⟨_,rfl,a,rfl,⟨_,SqL.of (S1 _ _ ga)⟩,?_⟩
  refine for_src0 (src_list (K:=K) (SqL.of (S1 _ _ ga))) (fun i σ H'=>Same H1 H'/\∃ pa z3,H' pa=some (.tup ((rowsB (rs.take i)).map V.int))/\σ = [some (.ref L.qu),some (.ref a),some (.ref pa),z3]) ?i0 (fun _ _ _ h=>h.1) ?_ ?_
  case i0=>exact⟨Same.refl _,p0,none,g0,rfl⟩
  ·rintro i x σ H5 H6 hi ⟨s5,pa,z3,g5,rfl⟩ s6 hx
   obtain⟨d,hd,dn⟩:=dxs.get hx
   rw[List.getElem?_map]at hd
   cases ej:rs[i]? with
   | none=>rw[ej]at hd; cases hd
   | some r=>
    rw[ej]at hd
    cases (Option.some.inj hd:rowR r=d)
    have hr':=hrs r (List.mem_of_getElem? ej)
    have et:rs.take (i+1)=rs.take i++[r]:=by
     rw[List.take_succ,ej]
     rfl
    refine⟨_,rfl,_,rfl,nil_go (use_rb (dn.same (S1.trans (s5.trans s6))) hr' fun pb H7 S7 g7=>?_)⟩
    refine⟨pa,pb,_,_,rfl,rfl,S7 _ _ (s6 _ _ g5),g7,?_,fun p8 H8 S8 g8=>?_⟩
    ·have h1:=rowsB_len (rs:=rs.take i) (fun r h=>hrs r (List.mem_of_mem_take h))
     have h2:=row_small hr'
     have h3:=ok.ents
     rw[List.length_map,List.length_map,rowB_len]
     rw[List.length_take]at h1
     refine Nat.le_trans (m:=100000) ?_ (by decide)
     omega
    ·refine⟨s5.trans (s6.trans (S7.trans S8)),p8,_,?_,rfl⟩
     rw[et,rowsB_snoc,List.map_append]
     exact g8
  rintro σ H2 ⟨S2,pa,z3,g2,rfl⟩
  rw[show rs.take xs.length=rs by rw[lx,List.take_length]]at g2
  have S02:=S1.trans S2
  have hq2:=hq.same S02
  obtain⟨dx,h1⟩:=hq2.self
  obtain⟨bs,hbs⟩:=ok.here
  refine⟨_,rfl,L.qu,_,dx,_,_,rfl,h1,T.cl_Queue,T.f_writing,rfl,_,rfl,iteF (go_next rfl ?_)⟩
  refine⟨_,rfl,L.qu,_,dx,_,rfl,h1,T.cl_Queue,T.f_writing,by show 10<1000; decide,?_⟩
  rw[putF_writing]
  obtain⟨hq3,st3⟩:=hq2.fields (dx:=dx) q true rfl rfl rfl
  generalize upd H2 L.qu (.ins A.queue dx (quF L q true))=H3 at hq3 st3 ⊢
  obtain⟨dx3,h13⟩:=hq3.self
  have st03:Step L L H H3:=(Same.step S02).trans st3
  have gp3:=st3.tup _ _ g2
  obtain⟨nok,nB⟩:=ok.next
  dsimp only
  refine seq_join (fun σ' H'=>σ'=[some (.ref L.qu),some (.ref a),some (.ref pa),z3]/\H' pa=some (.tup ((rowsB rs).map V.int))/\∃ L4,Step L L4 H H'/\QueueW A H' L4 (nextQ q) true) (fun n hn=>?_) ?_
  ·refine⟨_,rfl,L.qu,dx3,_,rfl,h13,rfl,L,q,true,bs,rfl,hq3,ok.last,hbs,fun H4 S4=>⟨_,rfl,?_⟩⟩
   have hq4:=hq3.same S4
   obtain⟨dx4,h14⟩:=hq4.self
   have el:lastF q=bs:=lastF_eq hbs
   cases hb:fullB q bs with
   | true=>
    refine iteT ?_
    have hu:q.B.up<=999999:=by
     unfold fullB at hb
     simp only[Bool.and_eq_true,Bool.not_eq_true',decide_eq_false_iff_not]at hb
     omega
    refine⟨_,rfl,L.qu,dx4,_,rfl,h14,rfl,L,q,true,rfl,hq4,ok.left,ok.nxt,ok.new,Nat.lt_trans ok.files (by decide),ok.len,ok.up,hu,fun L5 H5 st5 hq5=>?_⟩
    refine hn _ _ ⟨rfl,st5.tup _ _ (S4 _ _ gp3),L5,st03.trans ((Same.step S4).trans st5),?_⟩
    unfold nextQ
    rw[el,if_pos hb]
    exact hq5
   | false=>
    refine iteF (go_next rfl (hn _ _ ⟨rfl,S4 _ _ gp3,L,st03.trans (Same.step S4),?_⟩))
    unfold nextQ
    rw[el,if_neg (by rw[hb]; decide)]
    exact hq4
  rintro _ H5 ⟨rfl,gp5,L5,st5,hq5⟩
  have hent:(nextQ q).B.es.length+(nextQ q).B.parts.length+rs.length<900:=by rw[nB]; exact ok.ents
  generalize nextQ q=r at *
  obtain⟨dx5,h15⟩:=hq5.self
  obtain⟨dd5,h45⟩:=hq5.disk.self
  rw[st5.qu]at h15
  have lb:(rowsB rs).length<=100000:=by
   have h1:=rowsB_len hrs
   have h3:=ok.ents
   omega
  refine⟨_,rfl,L.qu,_,dx5,_,_,rfl,h15,T.cl_Queue,T.f_disk,rfl,L5.dk,dd5,_,rfl,h45,rfl,_,rfl,L.qu,_,dx5,_,_,rfl,h15,T.cl_Queue,T.f_last,rfl,r.last,rfl,nok.last,_,rfl,nil_go (use_add hq5.disk nok.left nok.last nok.here nok.len gp5 (rowsB_bytes hrs) lb fun H6 f6 hD6=>?_)⟩
  obtain⟨hq6,st6⟩:=hq5.toDisk f6 (fun b h=>.inl h) hD6
  obtain⟨dx6,h16⟩:=hq6.self
  have h16:H6 L5.qu=some (.ins A.queue dx6 (quF L5 { r with D:=setN r.D (segN r.last) (lastF r++rowsB rs) (rowsB rs).length } true)):=h16
  have h16':=h16
  rw[st5.qu]at h16'
  refine⟨_,rfl,L.qu,_,dx6,_,rfl,h16',T.cl_Queue,T.f_writing,by show 10<1000; decide,?_⟩
  rw[putF_writing]
  have hq6:QueueW A H6 L5 { r with D:=setN r.D (segN r.last) (lastF r++rowsB rs) (rowsB rs).length } true:=hq6
  have st6:Step L5 L5 H5 H6:=st6
  obtain⟨hq7,st7⟩:=hq6.fields (dx:=dx6) { r with D:=setN r.D (segN r.last) (lastF r++rowsB rs) (rowsB rs).length } false rfl rfl rfl
  rw[st5.qu]at hq7 st7
  generalize upd H6 L.qu (.ins A.queue dx6 (quF L5 { r with D:=setN r.D (segN r.last) (lastF r++rowsB rs) (rowsB rs).length } false))=H7 at hq7 st7 ⊢
  have st07:Step L L5 H H7:=st5.trans (st6.trans st7)
  have ga7:=st07.frm _ _ ga na
  refine⟨_,rfl,a,rfl,⟨_,SqL.of ga7⟩,?_⟩
  refine for_src0 (H0:=fun c=>if c=a then some (.lst xs) else none) (src_list (K:=K) (SqL.of (if_pos rfl))) (fun j σ H'=>∃ Lj Bj z3,Step L Lj H H'/\QueueW A H' Lj (addQ r (rowsB rs) Bj) false/\Bj.es.length+Bj.parts.length<=r.B.es.length+r.B.parts.length+j/\foldB r.last r.B rs=foldB r.last Bj (rs.drop j)/\σ = [some (.ref L.qu),some (.ref a),some (.ref pa),z3]) ?j0 ?kp ?_ ?_
  case j0=>exact⟨L5,r.B,_,st07,hq7,Nat.le_refl _,rfl,rfl⟩
  case kp=>
   rintro j σ H' ⟨Lj,Bj,z,st,_⟩ b o eb
   by_cases y:b=a
   ·subst y
    have eb:some (HO.lst xs)=some o:=by simpa using eb
    rw[<- eb]
    exact st.frm _ _ ga na
   ·have eb:none=some o:=by simpa [y] using eb
    cases eb
  ·rintro j y σ G1 G2 hj ⟨Lj,Bj,z,stj,hqj,hle,hfj,rfl⟩ sG hy
   obtain⟨d,hd,dn⟩:=dxs.get hy
   rw[List.getElem?_map]at hd
   cases ej:rs[j]? with
   | none=>rw[ej]at hd; cases hd
   | some ro=>
    rw[ej]at hd
    cases (Option.some.inj hd:rowR ro=d)
    have jL:j<rs.length:=(List.getElem?_eq_some_iff.mp ej).1
    have edj:rs.drop j=ro::rs.drop (j+1):=by
     rw[List.drop_eq_getElem_cons jL,(List.getElem?_eq_some_iff.mp ej).2]
    rw[edj]at hfj
    have efold:foldB r.last Bj (ro::rs.drop (j+1))=match enterF Bj ro.1 ro.2.1 ro.2.2 r.last with | none=>none | some B'=>foldB r.last B' (rs.drop (j+1)):=rfl
    obtain⟨t,b,rfl,gt,gb⟩:=row_form dn
    have st2:=stj.trans (Same.step sG)
    have dn':Den G2 (rowT ro.1 ro.2.1 ro.2.2) (.ref t):=den_t st2.tup (row_tup _ _ _) dn
    have hq2:=hqj.same sG
    obtain⟨dxj,h1j⟩:=hq2.self
    obtain⟨dbj,h2j⟩:=hq2.book.self
    rw[stj.qu]at h1j
    refine⟨_,rfl,L.qu,_,dxj,_,_,rfl,h1j,T.cl_Queue,T.f_book,rfl,Lj.bk,dbj,_,rfl,h2j,rfl,_,rfl,_,rfl,L.qu,_,dxj,_,_,rfl,h1j,T.cl_Queue,T.f_last,rfl,Lj.bk,Lj.de,Lj.dp,t,Bj,ro.1,ro.2.1,r.last,ro.2.2,rfl,hq2.book,dn',hrs ro (List.mem_of_getElem? ej),by omega,fun B2 hB2 dq H8 f8 hdq hB8=>?_,fun hno=>?_⟩
    ·obtain⟨hq8,st8⟩:=hq2.toBook f8 hdq hB8
     refine⟨_,B2,_,st2.trans st8,hq8,?_,?_,rfl⟩
     ·have:=enter_size hB2
      omega
     ·rw[hfj,efold,hB2]
    ·rw[hfj,efold,hno]at hfo
     cases hfo
  ·rintro σ H8 ⟨Lj,Bj,z,stj,hqj,hle,hfj,rfl⟩
   rw[lx,List.drop_of_length_le (Nat.le_refl _)]at hfj
   rw[hfj]at hfo
   cases (Option.some.inj hfo:Bj=B')
   exact qq Lj H8 stj hqj
end
end Qh
end
section
namespace Qh
open PySem L2
abbrev s_q_put:Stmt:=inClass (top 53) 1
abbrev s_q_putall:Stmt:=inClass (top 53) 2
abbrev s_check_bodies:Stmt:=top 44
theorem isQu_in {A:Ad} {H:Hp} {L:Pl} {q:Qs} {wr:Bool} (h:QueueW A H L q wr) {b:Addr} (hb:isQu L b):∃ o,H b=some o:=by
 obtain⟨dx,h1⟩:=h.self
 obtain⟨hk,h2,_⟩:=h.held
 obtain⟨db,h3⟩:=h.book.self
 obtain⟨kb,h4,_⟩:=h.book.ent
 obtain⟨ps,h5,_⟩:=h.book.par
 rcases hb with z | z | (z | z | z) | z
 ·exact⟨_,by rw[z]; exact h1⟩
 ·exact⟨_,by rw[z]; exact h2⟩
 ·exact⟨_,by rw[z]; exact h3⟩
 ·exact⟨_,by rw[z]; exact h4⟩
 ·exact⟨_,by rw[z]; exact h5⟩
 ·exact own_in h.disk z
def bodyD (d:PyData):Bool:=isRowD (.tuple [.str "put",.int 0,d])
def bodiesD:PyData->Bool
 | .tuple ds=>decide (1<=ds.length) && (decide (ds.length<=9) && ds.all bodyD)
 | _=>false
def smallB (d:PyData):Prop:=∀ bs,d = .tuple bs->bs.length<=1000
theorem row_ok {k:Str} {n:Int} {body:List Int} (hk:k = "put"\/k = "part") (h0:0<=n) (h1:n<=999999) (hb:bytesOk body) (hl:body.length<=60):isRowD (rowR (k,n,body))=true:=by
 have hc:kinds.contains k=true:=by rcases hk with rfl | rfl <;> decide +kernel
 show (kinds.contains k && (isNum 0 999999 (.int n) && (isByt (.tuple (body.map .int)) && fitsK k (intsOf (.tuple (body.map .int))))))=true
 have e1:isNum 0 999999 (.int n)=true:=by
  simp only[isNum,Bool.and_eq_true,decide_eq_true_eq]
  exact⟨h0,h1⟩
 have e2:isByt (.tuple (body.map .int))=true:=byt_all hb
 have e3:fitsK k body=true:=by
  unfold fitsK
  rw[if_pos hk]
  exact decide_eq_true hl
 rw[hc,e1,e2,ints_int,e3]
 rfl
theorem deal_ok {n:Int} {m:Nat} (h0:0<=n) (h1:n<=999999) (m1:1<=m) (m9:m<=9):isRowD (rowR ("deal",n,[(m:Int)]))=true:=by
 show (kinds.contains "deal" && (isNum 0 999999 (.int n) && (isByt (.tuple [.int (m:Int)]) && fitsK "deal" (intsOf (.tuple [.int (m:Int)])))))=true
 have e1:isNum 0 999999 (.int n)=true:=by
  simp only[isNum,Bool.and_eq_true,decide_eq_true_eq]
  exact⟨h0,h1⟩
 have e2:isByt (.tuple [.int (m:Int)])=true:=byt_all (ns:=[(m:Int)]) (fun b hb=>by rw[List.mem_singleton.mp hb]; omega)
 have e3:fitsK "deal" (intsOf (.tuple [.int (m:Int)]))=true:=by
  show fitsK "deal" [(m:Int)]=true
  unfold fitsK
  rw[if_neg (by decide),if_neg (by decide),if_pos rfl]
  show (decide (1=1) && decide (1<=(m:Int)) && decide ((m:Int)<=9))=true
  rw[decide_eq_true (show 1<=(m:Int) by omega),decide_eq_true (show (m:Int)<=9 by omega)]
  rfl
 rw[e1,e2,e3]
 decide +kernel
theorem body_good {d:PyData} (h:bodyD d=true):∃ body:List Int,d = .tuple (body.map .int)/\bytesOk body/\body.length<=60:=by
 obtain⟨k,n,bs,e,hk,_,_,hb,hf⟩:=isRow_form h
 injection e with e
 injection e with e1 e
 injection e with _ e
 injection e with e3 e
 injection e1 with e1
 subst e1
 have hb':isByt (.tuple bs)=true:=hb
 refine⟨intsOf (.tuple bs),?_,byt_bounds hb',?_⟩
 ·rw[e3]
  have:bs=(intsOf (.tuple bs)).map .int:=by
   rw[List.all_eq_true]at hb
   show bs=(bs.map _).map _
   rw[List.map_map]
   conv=>lhs; rw[<- List.map_id bs]
   apply List.map_congr_left
   intro x hx
   have:=hb x hx
   cases x with
   | int i=>rfl
   | _=>simp [isNum]at this
  rw[<- this]
 ·unfold fitsK at hf
  rw[if_pos (.inl rfl)]at hf
  exact of_decide_eq_true hf
def sp_check_bodies (A:Ad):Sp:=fun vs H Q E=>∃ (v:V) (d:PyData),vs=[v]/\Den H d v/\(∀ ds,d = .tuple ds->ds.length<=1000/\∀ e∈ds,smallB e)/\(bodiesD d=true->∀ H',Same H H'->Q .non H')/\(bodiesD d=false->∀ H',Same H H'->E (.ref A.badBody) none H')
def putQ (q:Qs) (body:List Int) (B':Bk):Qs:=addQ (nextQ q) (rowsB [("put",q.B.up,body)]) B'
def sp_q_put (A:Ad):Sp:=fun vs H Q E=>∃ (L:Pl) (q:Qs) (v:V) (d:PyData),vs=[.ref L.qu,v]/\QueueW A H L q false/\Den H d v/\smallB d/\(bodyD d=false->∀ H',Same H H'->E (.ref A.badBody) none H')/\
 (∀ body:List Int,d = .tuple (body.map .int)->bytesOk body->body.length<=60->WOk q 1/\q.B.up<=999999/\∃ B',foldB (nextQ q).last (nextQ q).B [("put",q.B.up,body)]=some B'/\∀ L' H',Step L L' H H'->QueueW A H' L' (putQ q body B') false->Q (.int q.B.up) H')
def partsR (up:Int) (bss:List (List Int)):List Rw:=(List.range bss.length).map fun(k:Nat)=>("part",up+(k:Int),bss.getD k [])
def dealR (up:Int) (bss:List (List Int)):List Rw:=partsR up bss++([("deal",up,[(bss.length:Int)])]:List Rw)
def allQ (q:Qs) (bss:List (List Int)) (B':Bk):Qs:=addQ (nextQ q) (rowsB (dealR q.B.up bss)) B'
def bodsD (bss:List (List Int)):List PyData:=bss.map fun b=>.tuple (b.map .int)
def numsL (up:Int) (n:Nat):List Int:=(List.range n).map fun(k:Nat)=>up+(k:Int)
def sp_q_putall (A:Ad):Sp:=fun vs H Q E=>∃ (L:Pl) (q:Qs) (v:V) (d:PyData),vs=[.ref L.qu,v]/\QueueW A H L q false/\Den H d v/\(∀ ds,d = .tuple ds->ds.length<=1000/\∀ e∈ds,smallB e)/\(bodiesD d=false->∀ H',Same H H'->E (.ref A.badBody) none H')/\
 (∀ bss:List (List Int),d = .tuple (bodsD bss)->1<=bss.length->bss.length<=9->(∀ b∈bss,bytesOk b/\b.length<=60)->WOk q (bss.length+1)/\q.B.up+(bss.length:Int)<=1000000/\∃ B',foldB (nextQ q).last (nextQ q).B (dealR q.B.up bss)=some B'/\∀ p L' H',Step L L' H H'->QueueW A H' L' (allQ q bss B') false->¬ isQu L' p->H' p=some (.lst ((numsL q.B.up bss.length).map V.int))->Q (.ref p) H')
theorem bodies_good {ds:List PyData} (h:ds.all bodyD=true):∃ bss:List (List Int),ds=bodsD bss/\∀ b∈bss,bytesOk b/\b.length<=60:=by
 induction ds with
 | nil=>exact⟨[],rfl,(fun b hb=>by cases hb)⟩
 | cons d ds ih=>
  rw[List.all_cons,Bool.and_eq_true]at h
  obtain⟨bss,e,hb⟩:=ih h.2
  obtain⟨b,e1,h1,h2⟩:=body_good h.1
  refine⟨b::bss,by rw[e,e1]; rfl,fun x hx=>?_⟩
  rcases List.mem_cons.mp hx with rfl | hx
  ·exact⟨h1,h2⟩
  ·exact hb x hx
section
variable {P:Program} {w:World} {K:PySem.W.Frag} {mg:Str->Option Value} {base:Heap} {A:Ad}
theorem sc_check_bodies:FnScope ["bodies","body"] ["bodies"] (defScope s_check_bodies):=‹0›
set_option maxHeartbeats 1000000 in
theorem ok_check_bodies {f:Addr} {fd:FuncData} (F:Fun K "check_bodies" "check_bodies" s_check_bodies f fd) (T:TxtQ K mg A) (c_check_body:‹10› "check_body" 4 ["body"] (sp_check_body A)):‹9› 5 f fd ["bodies"] (sp_check_bodies A):=by
 obtain⟨_,hc_LARGEST_DEAL⟩:=T.c_LARGEST_DEAL
 refine F.okX sc_check_bodies (fun vs H Q E h=>?_) (fun cdv A' outer s H vs Q E hr h=>?_)
 ·obtain⟨v,d,rfl,_⟩:=h
  rfl
 ·obtain⟨v,d,rfl,hd,hz,q,qe⟩:=h
  refine⟨_,@pss_cons _ _ _ _ _ (@ps_if _ _ _ _ _ _ _ _ (@PW.pt _ _ _ (@pw_or _ _ _ _ _ _ _ (@pt_not _ _ _ _ (@pt_val _ _ _ ‹42› ⋯)) (@pw_or1 _ _ _ _ (@pt_not _ _ _ _ (@pt_chain _ _ _ _ _ _ _ _ _ _ _ _ op_le op_le ‹24› ‹34› (@pe_glob _ _ (.int 9) _ _ (by rfl) hc_LARGEST_DEAL ⟨_,rfl⟩ ⋯) ⋯))))) (@pss_one _ _ _ (@ps_raise _ _ _ _ _ _ _ _ _ _ raisesB (by rfl) T.x_BadBody (by rfl) T.m_BadBody ‹23› ⋯ ⋯ ⋯)) (@pss_nil _)) (@pss_one _ _ _ (@ps_for _ _ _ _ _ _ _ _ (ownB own_cx) (by rfl) (@pi_tupK _ K _ _ _ ‹20› ⋯) (@pg_name _ _ (1) _ sc_check_bodies.nd (by rfl) (by first | exact Or.inl (by rfl) | exact Or.inr (by rfl)) ⋯) (@pss_one _ _ _ (ps_expr (pe_fn c_check_body ‹15› passS (pa_Name (pv 1) pa_nil)))) ⋯)),?_⟩
  have one:(1:Nat)<=sizeLine:=by decide
  refine⟨_,rfl,_,_,_,_,rfl,hd.ty,kit_tuple d,_,rfl,?_⟩
  cases d with
  | none=>exact iteT (iteT ⟨one,qe rfl H (Same.refl H)⟩)
  | bool x=>exact iteT (iteT ⟨one,qe rfl H (Same.refl H)⟩)
  | int x=>exact iteT (iteT ⟨one,qe rfl H (Same.refl H)⟩)
  | str x=>exact iteT (iteT ⟨one,qe rfl H (Same.refl H)⟩)
  | list x=>exact iteT (iteT ⟨one,qe rfl H (Same.refl H)⟩)
  | dict x=>exact iteT (iteT ⟨one,qe rfl H (Same.refl H)⟩)
  | tuple ds=>
  refine iteF ?_
  obtain⟨z1,z2⟩:=hz ds rfl
  have hd':=hd
  simp only[Den]at hd'
  obtain⟨a,xs,rfl,ha,hds⟩:=hd'
  have hl:=hds.length
  refine⟨_,rfl,a,_,rfl,.inr (SqT.of ha),_,_,rfl,rfl,_,rfl,?_⟩
  rw[hl]
  unfold bodiesD at q qe
  dsimp only at q qe
  by_cases h1:1<=ds.length
  case neg=>
   rw[decide_eq_false h1,Bool.false_and]at qe
   rw[if_neg (by rw[decide_eq_true_eq]; omega)]
   exact⟨_,rfl,iteT ⟨one,qe rfl H (Same.refl H)⟩⟩
  rw[decide_eq_true h1,Bool.true_and]at q qe
  rw[if_pos (decide_eq_true (by omega))]
  refine⟨_,_,rfl,rfl,_,rfl,?_⟩
  show if (!decide ((ds.length:Int)<=9))=true then _ else _
  by_cases h2:ds.length<=9
  case neg=>
   rw[decide_eq_false h2,Bool.false_and]at qe
   rw[decide_eq_false (by omega)]
   exact iteT ⟨one,qe rfl H (Same.refl H)⟩
  rw[decide_eq_true h2,Bool.true_and]at q qe
  rw[decide_eq_true (show (ds.length:Int)<=9 by omega)]
  refine iteF (go_next rfl ?_)
  refine⟨_,rfl,a,rfl,⟨_,SqT.of ha⟩,?_⟩
  refine for_src0 (src_tup (K:=K) (SqT.of ha)) (fun i σ H'=>Same H H'/\(ds.take i).all bodyD=true/\∃ z,σ = [some (.ref a),z]) ?i0 (fun _ _ _ h=>h.1) ?_ ?_
  case i0=>exact⟨Same.refl _,rfl,none,rfl⟩
  ·rintro i x σ H5 H6 hi ⟨s5,hall,z,rfl⟩ s6 hx
   obtain⟨e,he,dn⟩:=hds.get hx
   have S6:=s5.trans s6
   have ein:e∈ds:=List.mem_of_getElem? he
   refine⟨_,rfl,x,e,rfl,dn.same S6,fun bs eb=>Nat.le_trans (z2 e ein bs eb) (by decide),fun hb H7 S7=>?_,fun hb H7 S7=>?_⟩
   ·refine⟨S6.trans S7,?_,_,rfl⟩
    rw[List.take_succ,he,List.all_append,hall]
    show (true && (bodyD e && true))=true
    have:bodyD e=true:=hb
    rw[this]
    rfl
   ·refine qe ?_ H7 (S6.trans S7)
    rw[<- Bool.not_eq_true,List.all_eq_true]
    intro hall'
    have:bodyD e=true:=hall' e ein
    have hb:bodyD e=false:=hb
    rw[this]at hb
    cases hb
  ·rintro σ H5 ⟨s5,hall,z,rfl⟩
   rw[hl,List.take_length]at hall
   exact q hall H5 s5
theorem sc_Queue_put:FnScope ["self","body","number"] ["self","body"] (defScope s_q_put):=‹0›
set_option maxHeartbeats 1000000 in
theorem ok_q_put {f:Addr} {fd:FuncData} (F:Fun K "put" "Queue.put" s_q_put f fd) (T:TxtQ K mg A) (c_check_body:‹10› "check_body" 4 ["body"] (sp_check_body A)) (mQ_write:‹6›):‹9› 8 f fd ["self","body"] (sp_q_put A):=by
 refine F.okX sc_Queue_put (fun vs H Q E h=>?_) (fun cdv A' outer s H vs Q E hr h=>?_)
 ·obtain⟨L,q,v,d,rfl,_⟩:=h
  rfl
 ·obtain⟨L,q,v,d,rfl,hq,dv,hz,qe,qg⟩:=h
  refine⟨_,@pss_cons _ _ _ _ _ (ps_expr (pe_fn c_check_body ‹15› passS (pa_Name (pv 1) pa_nil))) (@pss_cons _ _ _ _ _ (@ps_set _ _ (2) _ _ _ _ sc_Queue_put.nd (by rfl) (by first | exact Or.inl (by rfl) | exact Or.inr (by rfl)) (@pe_fld _ _ _ _ _ ‹32› (by rfl)) ⋯ ⋯) (@pss_cons _ _ _ _ _ (ps_expr (pe_me mQ_write T.cl_Queue ‹15› passS (pv 0) (pa_List (pe_lst (pa_Tuple (pe_tup (pa_Constant pe_str (pa_Name (pv 2) (pa_Name (pv 1) pa_nil)))) pa_nil)) pa_nil))) (@pss_one _ _ _ (@ps_ret _ _ _ _ ‹25›)))),?_⟩
  refine⟨_,rfl,v,d,rfl,dv,(fun bs e=>Nat.le_trans (hz bs e) (by decide)),fun hg H1 S1=>?_,fun hb H1 S1=>qe hb H1 S1⟩
  obtain⟨body,rfl,hb,hl⟩:=body_good hg
  obtain⟨ok,hu,B',hfo,qq⟩:=qg body rfl hb hl
  have hrow2:isRowD (rowR ("put",q.B.up,body))=true:=row_ok (.inl rfl) ok.up hu hb hl
  have hq1:=hq.same S1
  obtain⟨dx,h1⟩:=hq1.self
  obtain⟨db,h2⟩:=hq1.book.self
  refine⟨_,rfl,L.qu,_,dx,_,_,rfl,h1,T.cl_Queue,T.f_book,rfl,L.bk,_,db,_,_,rfl,h2,T.cl_Book,T.f_upcoming,rfl,?_⟩
  refine⟨_,rfl,L.qu,dx,_,rfl,h1,rfl,_,rfl,_,rfl,le_size,fun p1 hp1=>⟨le_size,fun p2 hp2=>?_⟩⟩
  have S2:=same_upd (o:=.tup [.str "put",.int q.B.up,v]) hp1
  have g1:upd H1 p1 (.tup [.str "put",.int q.B.up,v]) p1=some (.tup [.str "put",.int q.B.up,v]):=upd_same
  generalize upd H1 p1 (.tup [.str "put",.int q.B.up,v])=H2 at S2 g1 hp2 ⊢
  have S3:=same_upd (o:=.lst [.ref p1]) hp2
  have g2:upd H2 p2 (.lst [.ref p1]) p2=some (.lst [.ref p1]):=upd_same
  generalize upd H2 p2 (.lst [.ref p1])=H3 at S3 g2 ⊢
  have S13:=S2.trans S3
  have hq3:=hq1.same S13
  refine⟨L,q,p2,[("put",q.B.up,body)],B',rfl,hq3,ok,fun z=>?_,?_,fun r hr'=>?_,hfo,fun L' H' st hq'=>⟨_,rfl,qq L' H' ((Same.step (S1.trans S13)).trans st) hq'⟩⟩
  ·obtain⟨o,e⟩:=isQu_in (hq1.same S2) z
   rw[e]at hp2
   cases hp2
  ·simp only[Den,List.map_cons,List.map_nil,Dens]
   refine⟨p2,_,rfl,g2,_,_,rfl,?_,rfl⟩
   unfold rowR rowT
   simp only[Den,Dens]
   refine⟨p1,_,rfl,S3 _ _ g1,_,_,rfl,rfl,_,_,rfl,rfl,_,_,rfl,?_,rfl⟩
   have:=dv.same (S1.trans S13)
   simp only[Den]at this
   exact this
  ·rcases List.mem_cons.mp hr' with rfl | z
   ·exact hrow2
   ·cases z
theorem sc_Queue_put_all:FnScope ["self","bodies","first","parts"] ["self","bodies"] (defScope s_q_putall):=‹0›
set_option maxHeartbeats 2000000 in
theorem ok_q_putall {f:Addr} {fd:FuncData} (F:Fun K "put_all" "Queue.put_all" s_q_putall f fd) (T:TxtQ K mg A) (c_check_bodies:‹10› "check_bodies" 5 ["bodies"] (sp_check_bodies A)) (mQ_write:‹6›):‹9› 8 f fd ["self","bodies"] (sp_q_putall A):=by
 refine F.okX sc_Queue_put_all (fun vs H Q E h=>?_) (fun cdv A' outer s H vs Q E hr h=>?_)
 ·obtain⟨L,q,v,d,rfl,_⟩:=h
  rfl
 ·obtain⟨L,q,v,d,rfl,hq,dv,hz,qe,qg⟩:=h
  refine⟨_,@pss_cons _ _ _ _ _ (ps_expr (pe_fn c_check_bodies ‹15› passS (pa_Name (pv 1) pa_nil))) (@pss_cons _ _ _ _ _ (@ps_set _ _ (2) _ _ _ _ sc_Queue_put_all.nd (by rfl) (by first | exact Or.inl (by rfl) | exact Or.inr (by rfl)) (@pe_fld _ _ _ _ _ ‹32› (by rfl)) ⋯ ⋯) (@pss_cons _ _ _ _ _ (@ps_setc _ _ _ (3) _ _ _ _ _ _ _ _ _ _ _ ["number","body"] [] sc_Queue_put_all.nd (by rfl) (by first | exact Or.inl (by rfl) | exact Or.inr (by rfl)) (by rfl) (@pi_enumS _ K _ _ _ _ _ _ _ _ _ _ T.n_enumerate ‹21› ‹25› ⋯ ⋯ ⋯) (fun C s2 H2 ex=>(@pg_tupK _ K _ _ _ (2) _ (@pgs_cons _ _ _ _ _ (@pg_name _ _ (0) _ (show List.Nodup (["number","body"]:List Str) by decide +kernel) (by rfl) (Or.inl (by rfl)) ⋯) (@pgs_cons _ _ _ _ _ (@pg_name _ _ (1) _ (show List.Nodup (["number","body"]:List Str) by decide +kernel) (by rfl) (Or.inl (by rfl)) ⋯) (@pgs_nil _) ⋯) ⋯) ⋯ ⋯ ⋯ ⋯)) ‹31› (fun C s2 H2 ex=>(@pe_tup _ _ _ _ _ (@pa_Constant _ _ _ _ _ _ _ (@pe_str _ _ _ _) (@pa_Name _ _ _ _ _ _ ‹20› ‹40›)))) ⋯ ⋯ ⋯ ⋯ ⋯ ⋯) (@pss_cons _ _ _ _ _ (ps_expr (pe_me mQ_write T.cl_Queue ‹15› passS (pv 0) (pa_BinOp (pe_op op_cat (pv 3) (pe_lst (pa_Tuple (pe_tup (pa_Constant pe_str (pa_Name (pv 2) (pa_Tuple (pe_tup (pa_Call (pe_callB (call_lenK K) (by rfl) T.n_len bt_len (pa_Name (pv 1) pa_nil)) pa_nil)) pa_nil)))) pa_nil))) pa_nil))) (@pss_one _ _ _ (@ps_ret _ _ _ _ (@pe_comp _ _ _ _ _ _ _ _ _ _ _ ["part"] [] (by rfl) (@pi_listK _ K _ _ _ ‹26› ⋯) (fun C s2 H2 ex=>(@pg_name _ _ (0) _ (show List.Nodup (["part"]:List Str) by decide +kernel) (by rfl) (Or.inl (by rfl)) ⋯)) ‹31› (fun C s2 H2 ex=>‹36›) ⋯ ⋯ ⋯ ⋯)))))),?_⟩
  refine⟨_,rfl,v,d,rfl,dv,hz,fun hg H1 S1=>?_,fun hb H1 S1=>qe hb H1 S1⟩
  cases d with
  | tuple ds=>
  simp only[bodiesD,Bool.and_eq_true,decide_eq_true_eq]at hg
  obtain⟨g1,g9,gall⟩:=hg
  obtain⟨bss,rfl,hbss⟩:=bodies_good gall
  have lb:(bodsD bss).length=bss.length:=List.length_map _
  rw[lb]at g1 g9
  obtain⟨ok,hu,B',hfo,qq⟩:=qg bss rfl g1 g9 hbss
  have hq1:=hq.same S1
  obtain⟨dx,h1⟩:=hq1.self
  obtain⟨db,h2⟩:=hq1.book.self
  have dv1:=dv.same S1
  simp only[Den]at dv1
  obtain⟨a,xs,rfl,ha,dxs⟩:=dv1
  have lx:=dxs.length
  rw[lb]at lx
  refine⟨_,rfl,L.qu,_,dx,_,_,rfl,h1,T.cl_Queue,T.f_book,rfl,L.bk,_,db,_,_,rfl,h2,T.cl_Book,T.f_upcoming,rfl,?_⟩
  refine⟨_,rfl,_,rfl,a,_,q.B.up,rfl,rfl,ok.up,by omega,SqT.of ha,?_⟩
  refine comp_src (src_enum (K:=K) q.B.up (SqT.of ha)) (by rw[lx]; exact Nat.le_trans g9 (by decide)) (fun i y H'=>Den H' (rowR ("part",q.B.up+(i:Int),bss.getD i [])) y) (fun i y G1 G2 s h=>h.n s (row_tup _ _ _)) (fun σ=>σ.length=2) ?z0 ?_ ?_
  case z0=>rfl
  ·intro i x σc H3 hi hσ s3 hx Q' hQ'
   obtain⟨p,u,rfl,hp,hv⟩:=hx
   obtain⟨e,he,dn⟩:=dxs.get hv
   rw[lx]at hi
   have eb:bss[i]? = some (bss.getD i []):=by rw[List.getD_eq_getElem?_getD,List.getElem?_eq_getElem hi]; rfl
   unfold bodsD at he
   rw[List.getElem?_map,eb]at he
   cases (Option.some.inj he:PyData.tuple ((bss.getD i []).map .int)=e)
   match σc,hσ with
   | [z1,z2],_=>
    refine⟨p,_,rfl,SqT.of hp,rfl,_,_,rfl,_,_,rfl,rfl,?_⟩
    refine⟨_,rfl,_,rfl,le_size,fun pt hpt=>?_⟩
    refine hQ' _ _ _ rfl (same_upd hpt) ?_
    unfold rowR rowT
    simp only[Den,Dens]
    refine⟨pt,_,rfl,upd_same,_,_,rfl,rfl,_,_,rfl,rfl,_,_,rfl,?_,rfl⟩
    have:=dn.same (s3.trans (same_upd (o:=.tup [.str "part",.int (q.B.up+(i:Int)),u]) hpt))
    simp only[Den]at this
    exact this
  intro D ys H2 hD S2 gD hlen hR
  rw[lx]at hlen
  have S02:=S1.trans S2
  have hq2:=hq.same S02
  refine⟨_,rfl,L.qu,dx,_,rfl,S2 _ _ h1,rfl,_,rfl,_,rfl,_,rfl,a,_,rfl,.inr (SqT.of (S2 _ _ ha)),le_size,fun t1 ht1=>⟨le_size,fun t2 ht2=>⟨le_size,fun l3 hl3=>?_⟩⟩⟩
  rw[lx]at ht2 hl3 ⊢
  have U1:=same_upd (o:=.tup [.int (bss.length:Int)]) ht1
  have u1:upd H2 t1 (.tup [.int (bss.length:Int)]) t1=some (.tup [.int (bss.length:Int)]):=upd_same
  generalize upd H2 t1 (.tup [.int (bss.length:Int)])=H3 at U1 u1 ht2 hl3 ⊢
  have U2:=same_upd (o:=.tup [.str "deal",.int q.B.up,.ref t1]) ht2
  have u2:upd H3 t2 (.tup [.str "deal",.int q.B.up,.ref t1]) t2=some (.tup [.str "deal",.int q.B.up,.ref t1]):=upd_same
  generalize upd H3 t2 (.tup [.str "deal",.int q.B.up,.ref t1])=H4 at U2 u2 hl3 ⊢
  have U3:=same_upd (o:=.lst [.ref t2]) hl3
  have u3:upd H4 l3 (.lst [.ref t2]) l3=some (.lst [.ref t2]):=upd_same
  generalize upd H4 l3 (.lst [.ref t2])=H5 at U3 u3 ⊢
  have S25:=U1.trans (U2.trans U3)
  refine⟨D,l3,ys,_,rfl,rfl,S25 _ _ gD,u3,?_,fun pc hpc=>?_⟩
  ·rw[hlen]
   exact Nat.le_trans (show _<=10 by simp; omega) (by decide)
  have U4:=same_upd (o:=.lst (ys++[.ref t2])) hpc
  have u4:upd H5 pc (.lst (ys++[.ref t2])) pc=some (.lst (ys++[.ref t2])):=upd_same
  generalize upd H5 pc (.lst (ys++[.ref t2]))=H6 at U4 u4 ⊢
  have S26:=S25.trans U4
  have hq6:=hq2.same S26
  have dl:(dealR q.B.up bss).length=bss.length+1:=by
   unfold dealR partsR
   rw[List.length_append,List.length_map,List.length_range]
   rfl
  refine⟨L,q,pc,dealR q.B.up bss,B',rfl,hq6,by rw[dl]; exact ok,fun z=>?_,?_,fun r hr'=>?_,hfo,fun L' H7 st hq7=>?_⟩
  ·obtain⟨o,e⟩:=isQu_in (hq2.same S25) z
   rw[e]at hpc
   cases hpc
  ·simp only[Den]
   refine⟨pc,_,rfl,u4,dens_of (by rw[List.length_map,dl,List.length_append,hlen]; rfl) fun i y e=>?_⟩
   by_cases hi:i<ys.length
   ·rw[List.getElem?_append_left hi]at e
    refine⟨rowR ("part",q.B.up+(i:Int),bss.getD i []),?_,(hR i y e).same S26⟩
    unfold dealR partsR
    rw[List.getElem?_map,List.getElem?_append_left (by rw[List.length_map,List.length_range]; omega),List.getElem?_map,List.getElem?_range (by omega)]
    rfl
   ·rw[List.getElem?_append_right (by omega)]at e
    have hi2:i - ys.length=0:=by
     have:=(List.getElem?_eq_some_iff.mp e).1
     rw[List.length_singleton]at this
     omega
    rw[hi2]at e
    cases (Option.some.inj e:V.ref t2=y)
    refine⟨rowR ("deal",q.B.up,[(bss.length:Int)]),?_,?_⟩
    ·unfold dealR partsR
     rw[List.getElem?_map,List.getElem?_append_right (by rw[List.length_map,List.length_range]; omega),List.length_map,List.length_range,show i - bss.length=0 by omega]
     rfl
    ·unfold rowR rowT
     simp only[Den,Dens,List.map_cons,List.map_nil]
     exact⟨t2,_,rfl,U4 _ _ (U3 _ _ u2),_,_,rfl,rfl,_,_,rfl,rfl,_,_,rfl,⟨t1,_,rfl,U4 _ _ (U3 _ _ (U2 _ _ u1)),_,_,rfl,rfl,rfl⟩,rfl⟩
  ·unfold dealR partsR at hr'
   rw[List.mem_append]at hr'
   rcases hr' with z | z
   ·rw[List.mem_map]at z
    obtain⟨k,hk,rfl⟩:=z
    rw[List.mem_range]at hk
    have hb:=hbss (bss.getD k []) (by rw[List.getD_eq_getElem?_getD,List.getElem?_eq_getElem hk]; exact List.getElem_mem hk)
    have:=ok.up
    exact row_ok (.inr rfl) (by omega) (by omega) hb.1 hb.2
   ·rw[List.mem_singleton.mp z]
    exact deal_ok ok.up (by omega) g1 g9
  have nD:¬ isQu L D:=fun z=>by
   obtain⟨o,e⟩:=isQu_in hq1 z
   rw[e]at hD
   cases hD
  have g7:=st.frm _ _ (S26 _ _ gD) nD
  refine⟨_,rfl,D,rfl,⟨_,SqL.of g7⟩,?_⟩
  refine comp_src (src_list (K:=K) (SqL.of g7)) (by rw[hlen]; exact Nat.le_trans g9 (by decide)) (fun i y _=>y = .int (q.B.up+(i:Int))) (fun _ _ _ _ _ h=>h) (fun σ=>σ.length=1) ?z1 ?_ ?_
  case z1=>rfl
  ·intro i x σc H8 hi hσ s8 hx Q' hQ'
   obtain⟨t,b,rfl,gt,gb⟩:=row_form (hR i x hx)
   match σc,hσ with
   | [z],_=>
    refine⟨_,rfl,t,_,_,.int (q.B.up+(i:Int)),rfl,rfl,SqT.of (s8 _ _ (st.tup _ _ (S26 _ _ gt))),atI_pos (by decide) rfl,?_⟩
    exact hQ' _ _ _ rfl (Same.refl _) rfl
  intro p zs H9 hp S9 g9' hlz hRz
  have ez:zs=(numsL q.B.up bss.length).map V.int:=by
   apply List.ext_getElem?
   intro j
   cases ej:zs[j]? with
   | none=>
    have h1:=List.getElem?_eq_none_iff.mp ej
    rw[List.getElem?_eq_none_iff.mpr]
    unfold numsL
    rw[List.length_map,List.length_map,List.length_range]
    omega
   | some y=>
    have hj:j<bss.length:=by
     have:=(List.getElem?_eq_some_iff.mp ej).1
     omega
    rw[hRz j y ej]
    unfold numsL
    rw[List.getElem?_map,List.getElem?_map,List.getElem?_range hj]
    rfl
  rw[ez]at g9'
  refine qq p L' H9 ((Same.step (S02.trans S26)).trans (st.trans (Same.step S9))) (hq7.same S9) (fun z=>?_) g9'
  obtain⟨o,e⟩:=isQu_in hq7 z
  rw[e]at hp
  cases hp
  | _=>simp [bodiesD]at hg
end
end Qh
end
section
namespace Qh
open PySem L2
abbrev s_q_take:Stmt:=inClass (top 53) 3
abbrev s_q_check:Stmt:=inClass (top 53) 18
def readyF (q:Qs) (ms:List Int):List Int:=(ms.filter (freeB q.hs)).filter fun n=>ltB (timesE q.B.es n) q.tries
def outQ (q:Qs) (n:Int) (x:Str) (B':Bk):Qs:={ addQ (nextQ q) (rowsB [("out",n,[])]) B' with hs:=q.hs++[(n,(x,q.now))] }
def sp_q_take (A:Ad):Sp:=fun vs H Q _=>∃ (L:Pl) (q:Qs) (x:Str) (ms:List Int),vs=[.ref L.qu,.str x]/\QueueW A H L q false/\q.B.es.length<64/\q.hs.length<900/\wordD hands 6 (.str x)=true/\(x.length<=1000/\ascii x=true)/\List.Perm ms (q.B.es.map (·.1))/\ms.Pairwise (· <= ·)/\
 (readyF q ms=[]->∀ H',Same H H'->Q .non H')/\
 (∀ n r,readyF q ms=n::r->WOk q 1/\0<=n/\n<=999999/\∃ B' e,foldB (nextQ q).last (nextQ q).B [("out",n,[])]=some B'/\lookE B'.es n=some e/\∀ p L' H',Step L L' H H'->QueueW A H' L' (outQ q n x B') false->Den H' (letD n e) (.ref p)->Q (.ref p) H')
def sp_q_check (A:Ad):Sp:=fun vs H Q _=>∃ (L:Pl) (q:Qs) (x:Str) (n tm:Int),vs=[.ref L.qu,.str x,.int n]/\QueueW A H L q false/\wordD hands 6 (.str x)=true/\(x.length<=1000/\ascii x=true)/\0<=n/\n<=999999/\lookH q.hs n=some (x,tm)/\∀ H',Same H H'->Q .non H'
theorem bare_ok {k:Str} {n:Int} (hk:k = "out"\/k = "new"\/k = "done") (h0:0<=n) (h1:n<=999999):isRowD (rowR (k,n,[]))=true:=by
 have e1:isNum 0 999999 (.int n)=true:=by
  simp only[isNum,Bool.and_eq_true,decide_eq_true_eq]
  exact⟨h0,h1⟩
 show (kinds.contains k && (isNum 0 999999 (.int n) && (isByt (.tuple []) && fitsK k (intsOf (.tuple [])))))=true
 rw[e1]
 rcases hk with rfl | rfl | rfl <;> decide +kernel
theorem QueueW.toHeld {H:Hp} {L:Pl} {q:Qs} {wr:Bool} {A:Ad} (h:QueueW A H L q wr) {hk':List (Key × V)} {hs':List (Int × (Str × Int))} (r:HoR H hs' hk'):QueueW A (upd H L.hd (.dK hk')) L { q with hs:=hs' } wr/\Step L L H (upd H L.hd (.dK hk')):=by
 obtain⟨dx,h1⟩:=h.self
 obtain⟨hk,h2,h3⟩:=h.held
 have t:TupS H (upd H L.hd (.dK hk')):=tup_upd h2 (fun xs z=>by cases z)
 refine⟨⟨⟨dx,by rw[upd_ne (fun z=>h.a_hd.1 z.symm)]; exact h1⟩,h.disk.keep fun b o e hb=>?_,h.book.keep (fun b o e hb=>?_) t,⟨hk',upd_same,r.t t⟩,h.a_bd,h.a_qu,h.a_hd⟩,⟨rfl,rfl,fun b o e nb=>by rw[upd_ne (fun z=>nb (.inr (.inl z)))]; exact e,fun b hb=>.inl hb,t⟩⟩
 ·rw[upd_ne (fun z=>by rw[z]at hb; exact h.a_hd.2.2 hb)]
  exact e
 ·rw[upd_ne (fun z=>by rw[z]at hb; exact h.a_hd.2.1 hb)]
  exact e
theorem next_now (q:Qs):(nextQ q).now=q.now/\(nextQ q).hs=q.hs/\(nextQ q).tries=q.tries/\(nextQ q).B=q.B:=by
 unfold nextQ
 split <;> exact⟨rfl,rfl,rfl,rfl⟩
section
variable {P:Program} {w:World} {K:PySem.W.Frag} {mg:Str->Option Value} {base:Heap} {A:Ad}
theorem sc_Queue_take:FnScope ["self","hand","numbers","number"] ["self","hand"] (defScope s_q_take):=‹0›
set_option maxHeartbeats 1000000 in
theorem ok_q_take {f:Addr} {fd:FuncData} (F:Fun K "take" "Queue.take" s_q_take f fd) (T:TxtQ K mg A) (c_check_hand:‹10› "check_hand" 2 ["hand"] (sp_check_hand A)) (mB_letter:‹11› A.book "letter" 1 ["self","number"] (sp_letter A.book)) (mQ_ready:‹11› A.queue "ready" 4 ["self"] (sp_q_pick A ltB)) (mQ_write:‹6›):‹9› 8 f fd ["self","hand"] (sp_q_take A):=by
 refine F.okX sc_Queue_take (fun vs H Q E h=>?_) (fun cdv A' outer s H vs Q E hr h=>?_)
 ·obtain⟨L,q,x,ms,rfl,_⟩:=h
  rfl
 ·obtain⟨L,q,x,ms,rfl,hq,hl,hh,hw,hz,perm,pw,qn,qs⟩:=h
  refine⟨_,@pss_cons _ _ _ _ _ (ps_expr (pe_fn c_check_hand ‹15› passS (pa_Name (pv 1) pa_nil))) (@pss_cons _ _ _ _ _ (@ps_set _ _ (2) _ _ _ _ sc_Queue_take.nd (by rfl) (by first | exact Or.inl (by rfl) | exact Or.inr (by rfl)) (@pe_me0 _ _ _ _ _ _ _ _ _ _ _ _ mQ_ready T.cl_Queue ‹15› passN ‹20› ⋯) ⋯ ⋯) (@pss_cons _ _ _ _ _ (@ps_if _ _ _ _ _ _ _ _ (@pt_not _ _ _ _ (@pt_listK _ K _ _ ‹25› ⋯ ⋯)) (@pss_one _ _ _ (@ps_ret _ _ _ _ (@pe_non _ _ _))) (@pss_nil _)) (@pss_cons _ _ _ _ _ (@ps_set _ _ (3) _ _ _ _ sc_Queue_take.nd (by rfl) (by first | exact Or.inl (by rfl) | exact Or.inr (by rfl)) (@pe_ix _ _ _ _ _ _ _ (ix_listK K) ‹25› ‹24› (fun _ _=>rfl)) ⋯ ⋯) (@pss_cons _ _ _ _ _ (ps_expr (pe_me mQ_write T.cl_Queue ‹15› passS (pv 0) (pa_List (pe_lst (pa_Tuple (pe_tup (pa_Constant pe_str (pa_Name (pv 3) (pa_Tuple (pe_tup pa_nil) pa_nil)))) pa_nil)) pa_nil))) (@pss_cons _ _ _ _ _ (@ps_dput _ _ _ _ _ _ _ _ _ (hu1 hr.units) ‹32› ‹26› (@pe_tup _ _ _ _ _ (@pa_Name _ _ _ _ _ _ ‹21› ‹50›)) (by rfl)) (@pss_one _ _ _ (@ps_ret _ _ _ _ (@pe_me _ _ _ _ _ _ _ _ _ _ _ _ _ _ _ mB_letter T.cl_Book ‹15› passN ‹32› (@pa_Name _ _ _ _ _ _ ‹26› (@pa_nil _)) ⋯ ⋯ ⋯)))))))),?_⟩
  refine⟨_,rfl,.str x,.str x,rfl,by simp only[Den],(fun y e=>by injection e with e; rw[<- e]; exact hz),fun _ H1 S1=>?_,(fun z=>by rw[hw]at z; cases z)⟩
  have hq1:=hq.same S1
  obtain⟨dx,h1⟩:=hq1.self
  refine⟨_,rfl,L.qu,dx,_,rfl,h1,rfl,L,q,rfl,hq1,hl,fun ms' perm' pw' p H2 S2 hp g2=>?_⟩
  have em:ms'=ms:=sorted_uniq (perm'.trans perm.symm) pw' pw
  subst em
  have g2:H2 p=some (.lst ((readyF q ms').map V.int)):=g2
  cases er:readyF q ms' with
  | nil=>
   rw[er]at g2
   exact⟨_,rfl,p,_,rfl,SqL.of g2,iteT (qn er H2 (S1.trans S2))⟩
  | cons n r=>
   rw[er]at g2
   obtain⟨ok,n0,n9,B',e,hfo,hle,qq⟩:=qs n r er
   refine⟨_,rfl,p,_,rfl,SqL.of g2,iteF (go_next rfl ?_)⟩
   refine⟨_,rfl,p,_,_,.int n,rfl,rfl,SqL.of g2,atI_pos (by decide) rfl,?_⟩
   have S12:=S1.trans S2
   have hq2:=hq.same S12
   obtain⟨dx2,h2⟩:=hq2.self
   refine⟨_,rfl,L.qu,dx2,_,rfl,h2,rfl,_,rfl,le_size,fun p0 hp0=>⟨le_size,fun p1 hp1=>⟨le_size,fun p2 hp2=>?_⟩⟩⟩
   have V0:=same_upd (o:=.tup []) hp0
   have v0:upd H2 p0 (.tup []) p0=some (.tup []):=upd_same
   generalize upd H2 p0 (.tup [])=H3 at V0 v0 hp1 hp2 ⊢
   have V1:=same_upd (o:=.tup [.str "out",.int n,.ref p0]) hp1
   have v1:upd H3 p1 (.tup [.str "out",.int n,.ref p0]) p1=some (.tup [.str "out",.int n,.ref p0]):=upd_same
   generalize upd H3 p1 (.tup [.str "out",.int n,.ref p0])=H4 at V1 v1 hp2 ⊢
   have V2:=same_upd (o:=.lst [.ref p1]) hp2
   have v2:upd H4 p2 (.lst [.ref p1]) p2=some (.lst [.ref p1]):=upd_same
   generalize upd H4 p2 (.lst [.ref p1])=H5 at V2 v2 ⊢
   have S25:=V0.trans (V1.trans V2)
   have hq5:=hq2.same S25
   refine⟨L,q,p2,[("out",n,[])],B',rfl,hq5,ok,fun z=>?_,?_,fun r hr'=>?_,hfo,fun L' H6 st hq6=>?_⟩
   ·obtain⟨o,e⟩:=isQu_in (hq2.same (V0.trans V1)) z
    rw[e]at hp2
    cases hp2
   ·simp only[Den,List.map_cons,List.map_nil,Dens]
    refine⟨p2,_,rfl,v2,_,_,rfl,?_,rfl⟩
    unfold rowR rowT
    simp only[Den,Dens,List.map_nil]
    exact⟨p1,_,rfl,V2 _ _ v1,_,_,rfl,rfl,_,_,rfl,rfl,_,_,rfl,⟨p0,_,rfl,V2 _ _ (V1 _ _ v0),rfl⟩,rfl⟩
   ·rw[List.mem_singleton.mp hr']
    exact bare_ok (.inl rfl) n0 n9
   obtain⟨nn,nh,_,_⟩:=next_now q
   have st05:=(Same.step (S12.trans S25)).trans st
   obtain⟨dx6,h6⟩:=hq6.self
   obtain⟨hk,g6,r6⟩:=hq6.held
   rw[show (addQ (nextQ q) (rowsB [("out",n,[])]) B').hs=q.hs from nh]at r6
   rw[st.qu]at h6
   refine⟨_,rfl,_,rfl,L.qu,_,dx6,_,_,rfl,h6,T.cl_Queue,T.f_now,rfl,le_size,fun pt hpt=>?_⟩
   have nowE:(addQ (nextQ q) (rowsB [("out",n,[])]) B').now=q.now:=nn
   rw[nowE]
   have V6:=same_upd (o:=.tup [.str x,.int q.now]) hpt
   have v6:upd H6 pt (.tup [.str x,.int q.now]) pt=some (.tup [.str x,.int q.now]):=upd_same
   generalize upd H6 pt (.tup [.str x,.int q.now])=H7 at V6 v6 ⊢
   have fr:lookH q.hs n=none:=by
    have hm:n∈readyF q ms':=by rw[er]; exact List.mem_cons_self
    have:=(List.mem_filter.mp (List.mem_filter.mp hm).1).2
    exact Option.isNone_iff_eq_none.mp this
   have ev:=(r6.look (n:=n)).1 fr
   have ep:putK hk (Sum.inl n) (V.ref pt)=hk++[(Sum.inl n,V.ref pt)]:=by
    unfold putK
    rw[valV_any,ev]
    rfl
   have hkl:hk.length<sizeLine:=by
    rw[r6.len]
    exact Nat.lt_trans hh (by decide)
   refine⟨_,rfl,L.qu,_,dx6,_,_,rfl,V6 _ _ h6,T.cl_Queue,T.f_holders,rfl,_,rfl,L'.hd,_,rfl,DPut.k (k:=Sum.inl n) (V6 _ _ g6) hkl,?_⟩
   rw[ep]
   obtain⟨hq8,st8⟩:=(hq6.same V6).toHeld (HoR.snoc v6 (r6.t (Same.tup V6)):HoR H7 (q.hs++[(n,(x,q.now))]) (hk++[(Sum.inl n,.ref pt)]))
   generalize upd H7 L'.hd (.dK (hk++[(Sum.inl n,.ref pt)]))=H8 at hq8 st8 ⊢
   obtain⟨dx8,h8⟩:=hq8.self
   obtain⟨db8,hb8⟩:=hq8.book.self
   rw[st.qu]at h8
   refine⟨_,rfl,L.qu,_,dx8,_,_,rfl,h8,T.cl_Queue,T.f_book,rfl,L'.bk,db8,_,rfl,hb8,rfl,_,rfl,L'.bk,L'.de,L'.dp,B',n,e,rfl,hq8.book,hle,fun pr H9 S9 d9=>?_⟩
   exact qq pr L' H9 (st05.trans ((Same.step V6).trans (st8.trans (Same.step S9)))) (hq8.same S9) d9
theorem sc_Queue_check_held:FnScope ["self","hand","number"] ["self","hand","number"] (defScope s_q_check):=‹0›
set_option maxHeartbeats 1000000 in
theorem ok_q_check {f:Addr} {fd:FuncData} (F:Fun K "check_held" "Queue.check_held" s_q_check f fd) (T:TxtQ K mg A) (c_is_number:‹5›) (c_check_hand:‹10› "check_hand" 2 ["hand"] (sp_check_hand A)):‹9› 3 f fd ["self","hand","number"] (sp_q_check A):=by
 obtain⟨_,hc_HIGHEST_NUMBER⟩:=T.c_HIGHEST_NUMBER
 refine F.okX sc_Queue_check_held (fun vs H Q E h=>?_) (fun cdv A' outer s H vs Q E hr h=>?_)
 ·obtain⟨L,q,x,n,tm,rfl,_⟩:=h
  rfl
 ·obtain⟨L,q,x,n,tm,rfl,hq,hw,hz,n0,n9,el,qq⟩:=h
  refine⟨_,@pss_cons _ _ _ _ _ (ps_expr (pe_fn c_check_hand ‹15› passS (pa_Name (pv 1) pa_nil))) (@pss_cons _ _ _ _ _ (@ps_if _ _ _ _ _ _ _ _ (@PW.pt _ _ _ (@pw_or _ _ _ _ _ _ _ (@pt_not _ _ _ _ (@pt_val _ _ _ (@pe_fn _ _ _ _ _ _ _ _ _ _ _ c_is_number ‹15› passN (@pa_Name _ _ _ _ _ _ ‹25› (@pa_Constant _ _ _ _ _ _ _ ‹24› (@pa_Name _ _ _ _ _ _ (@pe_glob _ _ (.int 999999) _ _ (by rfl) hc_HIGHEST_NUMBER ⟨_,rfl⟩ ⋯) (@pa_nil _)))) ⋯ ⋯ ⋯ ⋯) ⋯)) (@pw_or1 _ _ _ _ (@pt_cmp _ _ _ _ _ _ (@pc_dnotin _ _ _ _ _ (hu1 hr.units) ‹25› ‹32›) ⋯)))) (@pss_one _ _ _ (@ps_raise _ _ _ _ _ _ _ _ _ _ raisesB (by rfl) T.x_NotHeld (by rfl) T.m_NotHeld ‹23› ⋯ ⋯ ⋯)) (@pss_nil _)) (@pss_one _ _ _ (@ps_if _ _ _ _ _ _ _ _ (@pt_cmpR _ _ _ _ _ _ _ _ op_ne (@pe_ix _ _ _ _ _ _ _ (ix_tupK K) (@pe_dget _ _ _ _ _ _ (hu1 hr.units) ‹32› ‹25› (fun _ _=>rfl)) ‹24› (fun _ _=>rfl)) ‹21› (nomark _)) (@pss_one _ _ _ (@ps_raise _ _ _ _ _ _ _ _ _ _ raisesB (by rfl) T.x_NotHeld (by rfl) T.m_NotHeld ‹23› ⋯ ⋯ ⋯)) (@pss_nil _)))),?_⟩
  refine⟨_,rfl,.str x,.str x,rfl,by simp only[Den],(fun y e=>by injection e with e; rw[<- e]; exact hz),fun _ H1 S1=>?_,(fun z=>by rw[hw]at z; cases z)⟩
  have hq1:=hq.same S1
  obtain⟨dx,h1⟩:=hq1.self
  obtain⟨hk,g1,r1⟩:=hq1.held
  have isn:isNum 0 999999 (.int n)=true:=by
   simp only[isNum,Bool.and_eq_true,decide_eq_true_eq]
   exact⟨n0,n9⟩
  obtain⟨t,ev,gt⟩:=(r1.look (n:=n)).2 x tm el
  have dg:DGet H1 L.hd (.int n) (some (.ref t)):=by
   have:=DGet.k (k:=Sum.inl n) g1
   rw[ev]at this
   exact this
  refine⟨_,rfl,.int n,.int n,0,999999,rfl,by simp only[Den],_,rfl,?_⟩
  rw[isn]
  refine iteF ⟨_,rfl,_,rfl,L.qu,_,dx,_,_,rfl,h1,T.cl_Queue,T.f_holders,rfl,L.hd,_,rfl,dg,_,rfl,iteF (go_next rfl ?_)⟩
  refine⟨_,rfl,L.qu,_,dx,_,_,rfl,h1,T.cl_Queue,T.f_holders,rfl,_,rfl,L.hd,_,rfl,dg,?_⟩
  refine⟨t,_,_,.str x,rfl,rfl,SqT.of gt,atI_pos (by decide) rfl,_,rfl,rfl,_,rfl,?_⟩
  rw[decide_eq_true rfl]
  exact iteF (qq H1 S1)
end
end Qh
end
section
namespace Qh
open PySem L2
abbrev s_q_done:Stmt:=inClass (top 53) 4
abbrev s_q_sweep:Stmt:=inClass (top 53) 15
abbrev s_q_carry:Stmt:=inClass (top 53) 16
abbrev s_b_numbers:Stmt:=inClass (top 35) 7
theorem bt_min:bootBuiltins "min" = some (.builtin "min"):=by decide +kernel
def doneQ (q:Qs) (n:Int) (B':Bk):Qs:={ addQ (nextQ q) (rowsB [("done",n,[])]) B' with hs:=dropH q.hs n }
def dropF (q:Qs):Qs:={ q with D:=dropN q.D (segN q.first),first:=q.first+1 }
def sp_q_done (A:Ad):Sp:=fun vs H Q _=>∃ (L:Pl) (q:Qs) (x:Str) (n tm:Int) (B':Bk),vs=[.ref L.qu,.str x,.int n]/\QueueW A H L q false/\wordD hands 6 (.str x)=true/\(x.length<=1000/\ascii x=true)/\0<=n/\n<=999999/\lookH q.hs n=some (x,tm)/\WOk q 1/\foldB (nextQ q).last (nextQ q).B [("done",n,[])]=some B'/\∀ L' H',Step L L' H H'->QueueW A H' L' (doneQ q n B') false->Q .non H'
def sp_numbers (C:Addr):Sp:=fun vs H Q _=>∃ (bk de dp:Addr) (B:Bk) (seg:Int),vs=[.ref bk,.int seg]/\BookAt C H bk de dp B/\B.es=[]/\∀ p H',Same H H'->H p=none->H' p=some (.lst [])->Q (.ref p) H'
def sp_q_carry (A:Ad):Sp:=fun vs H Q _=>∃ (L:Pl) (q:Qs),vs=[.ref L.qu]/\QueueW A H L q false/\q.B.es=[]/\(q.first=q.last->Q .non H)/\(q.first≠q.last->q.D.left=none/\numOk q.first/\(∃ bs,lookF q.D.fs (segN q.first)=some bs)/\∀ L' H',Step L L' H H'->QueueW A H' L' (dropF q) false->Q (.int 0) H')
def sp_q_sweep (A:Ad):Sp:=fun vs H Q _=>∃ (L:Pl) (q:Qs) (I:Qs->Prop),vs=[.ref L.qu]/\QueueW A H L q false/\I q/\(∀ q',I q'->q'.B.es=[]/\q'.first<=q'.last/\(q'.first<q'.last->q'.D.left=none/\numOk q'.first/\(∃ bs,lookF q'.D.fs (segN q'.first)=some bs)/\I (dropF q')))/\
 ∀ L' q' H' n,Step L L' H H'->QueueW A H' L' q' false->I q'->q'.first=q'.last->Q (.int n) H'
section
variable {P:Program} {w:World} {K:PySem.W.Frag} {mg:Str->Option Value} {base:Heap} {A:Ad}
theorem sc_Queue_done:FnScope ["self","hand","number"] ["self","hand","number"] (defScope s_q_done):=‹0›
set_option maxHeartbeats 1000000 in
theorem ok_q_done {f:Addr} {fd:FuncData} (F:Fun K "done" "Queue.done" s_q_done f fd) (T:TxtQ K mg A) (mQ_check_held:‹11› A.queue "check_held" 3 ["self","hand","number"] (sp_q_check A)) (mQ_write:‹6›):‹9› 8 f fd ["self","hand","number"] (sp_q_done A):=by
 refine F.okX sc_Queue_done (fun vs H Q E h=>?_) (fun cdv A' outer s H vs Q E hr h=>?_)
 ·obtain⟨L,q,x,n,tm,B',rfl,_⟩:=h
  rfl
 ·obtain⟨L,q,x,n,tm,B',rfl,hq,hw,hz,n0,n9,el,ok,hfo,qq⟩:=h
  refine⟨_,@pss_cons _ _ _ _ _ (ps_expr (pe_me mQ_check_held T.cl_Queue ‹15› passS (pv 0) (pa_Name (pv 1) (pa_Name (pv 2) pa_nil)))) (@pss_cons _ _ _ _ _ (ps_expr (pe_me mQ_write T.cl_Queue ‹15› passS (pv 0) (pa_List (pe_lst (pa_Tuple (pe_tup (pa_Constant pe_str (pa_Name (pv 2) (pa_Tuple (pe_tup pa_nil) pa_nil)))) pa_nil)) pa_nil))) (@pss_one _ _ _ (ps_expr (pe_bmK K PySem.F.plainAttrs_dict PySem.F.slot_dict_pop PySem.F.type_dict_pop mt_dpop (pe_fld (pv 0) (by rfl)) (pa_Name (pv 2) pa_nil))))),?_⟩
  obtain⟨dx0,h0⟩:=hq.self
  refine⟨_,rfl,L.qu,dx0,_,rfl,h0,rfl,_,rfl,_,rfl,L,q,x,n,tm,rfl,hq,hw,hz,n0,n9,el,fun H2 S2=>?_⟩
  have hq2:=hq.same S2
  obtain⟨dx2,h2⟩:=hq2.self
  refine⟨_,rfl,L.qu,dx2,_,rfl,h2,rfl,_,rfl,le_size,fun p0 hp0=>⟨le_size,fun p1 hp1=>⟨le_size,fun p2 hp2=>?_⟩⟩⟩
  have V0:=same_upd (o:=.tup []) hp0
  have v0:upd H2 p0 (.tup []) p0=some (.tup []):=upd_same
  generalize upd H2 p0 (.tup [])=H3 at V0 v0 hp1 hp2 ⊢
  have V1:=same_upd (o:=.tup [.str "done",.int n,.ref p0]) hp1
  have v1:upd H3 p1 (.tup [.str "done",.int n,.ref p0]) p1=some (.tup [.str "done",.int n,.ref p0]):=upd_same
  generalize upd H3 p1 (.tup [.str "done",.int n,.ref p0])=H4 at V1 v1 hp2 ⊢
  have V2:=same_upd (o:=.lst [.ref p1]) hp2
  have v2:upd H4 p2 (.lst [.ref p1]) p2=some (.lst [.ref p1]):=upd_same
  generalize upd H4 p2 (.lst [.ref p1])=H5 at V2 v2 ⊢
  have S25:=V0.trans (V1.trans V2)
  have hq5:=hq2.same S25
  refine⟨L,q,p2,[("done",n,[])],B',rfl,hq5,ok,fun z=>?_,?_,fun r hr'=>?_,hfo,fun L' H6 st hq6=>?_⟩
  ·obtain⟨o,e⟩:=isQu_in (hq2.same (V0.trans V1)) z
   rw[e]at hp2
   cases hp2
  ·simp only[Den,List.map_cons,List.map_nil,Dens]
   refine⟨p2,_,rfl,v2,_,_,rfl,?_,rfl⟩
   unfold rowR rowT
   simp only[Den,Dens,List.map_nil]
   exact⟨p1,_,rfl,V2 _ _ v1,_,_,rfl,rfl,_,_,rfl,rfl,_,_,rfl,⟨p0,_,rfl,V2 _ _ (V1 _ _ v0),rfl⟩,rfl⟩
  ·rw[List.mem_singleton.mp hr']
   exact bare_ok (.inr (.inr rfl)) n0 n9
  obtain⟨dx6,h6⟩:=hq6.self
  obtain⟨hk,g6,r6⟩:=hq6.held
  rw[show (addQ (nextQ q) (rowsB [("done",n,[])]) B').hs=q.hs from (next_now q).2.1]at r6
  obtain⟨t,ev,gt⟩:=(r6.look (n:=n)).2 x tm el
  rw[st.qu]at h6
  refine⟨_,rfl,L.qu,_,dx6,_,_,rfl,h6,T.cl_Queue,T.f_holders,rfl,.inr (.inr (.inl ⟨rfl,.inl ⟨_,g6⟩⟩)),_,rfl,L'.hd,hk,Sum.inl n,_,rfl,rfl,g6,ev,?_⟩
  obtain⟨hq7,st7⟩:=hq6.toHeld (r6.drop (n:=n))
  exact qq _ _ ((Same.step (S2.trans S25)).trans (st.trans st7)) hq7
theorem sc_Book_numbers_in:FnScope ["self","segment"] ["self","segment"] (defScope s_b_numbers):=‹0›
set_option maxHeartbeats 1000000 in
theorem ok_b_numbers {f:Addr} {fd:FuncData} {a_KINDS C_BadRow C_Broken C_Book:Addr} (F:Fun K "numbers_in" "Book.numbers_in" s_b_numbers f fd) (T:‹7›):‹9› 1 f fd ["self","segment"] (sp_numbers C_Book):=by
 refine F.okX sc_Book_numbers_in (fun vs H Q E h=>?_) (fun cdv A' outer s H vs Q E hr h=>?_)
 ·obtain⟨bk,de,dp,B,seg,rfl,_⟩:=h
  rfl
 ·obtain⟨bk,de,dp,B,seg,rfl,hB,he,qq⟩:=h
  refine⟨_,@pss_one _ _ _ (@ps_ret _ _ _ _ (@pe_comp _ _ _ _ _ _ _ _ _ _ _ ["number"] [("self",0),("segment",1)] (by rfl) (@pi_listK _ K _ _ _ (@pe_callB _ _ _ _ _ _ _ _ _ (call_sortedI (by rfl)) (by rfl) T.n_sorted bt_sorted ‹50› ⋯ ⋯ ⋯ ⋯) ⋯) (fun C s2 H2 ex=>(@pg_name _ _ (0) _ (show List.Nodup (["number","self","segment"]:List Str) by decide +kernel) (by rfl) (Or.inl (by rfl)) ⋯)) (fun C s2 H2 ex=>(@pif_one _ _ _ (@pt_cmpR _ _ _ _ _ _ _ _ op_eq (@pe_ix _ _ _ _ _ _ _ (ix_tupK K) (@pe_dget _ _ _ _ _ _ (hu1 hr.units) (@pe_fldK K _ _ _ _ _ ‹21› (by rfl) ⋯) ‹20› (fun _ _=>rfl)) ‹24› (fun _ _=>rfl)) ‹25› (nomark _)))) (fun C s2 H2 ex=>‹20›) ⋯ ⋯ ⋯ ⋯)),?_⟩
  obtain⟨dx,h1⟩:=hB.self
  obtain⟨kvs,h2,h3⟩:=hB.ent
  rw[he]at h3
  have ek:kvs=[]:=by
   cases kvs with
   | nil=>rfl
   | cons _ _=>exact h3.elim
  subst ek
  refine⟨_,rfl,bk,_,dx,_,_,rfl,h1,T.cl,T.f_entries,rfl,de,[],[],rfl,h2,rfl,by decide,fun p ms perm pw hp=>?_⟩
  have e:=perm.eq_nil
  subst e
  have S1:=same_upd (o:=.lst (([]:List Int).map V.int)) hp
  have g1:upd H p (.lst (([]:List Int).map V.int)) p=some (.lst (([]:List Int).map V.int)):=upd_same
  generalize upd H p (.lst (([]:List Int).map V.int))=H1 at S1 g1 ⊢
  refine⟨p,rfl,⟨_,SqL.of g1⟩,?_⟩
  refine comp_flt (src_list (K:=K) (SqL.of g1)) (Nat.zero_le _) (fun _=>true) (fun _=>.non) (fun _=>True) trivial (fun i x σc H3 hi=>absurd hi (Nat.not_lt_zero i)) ?_
  intro D H2 hD S2 g2
  exact qq D H2 (S1.trans S2) (S1.free hD) g2
theorem sc_Queue_sweep:FnScope ["self","went"] ["self"] (defScope s_q_sweep):=‹0›
set_option maxHeartbeats 1000000 in
theorem ok_q_sweep {f:Addr} {fd:FuncData} (F:Fun K "sweep" "Queue.sweep" s_q_sweep f fd) (T:TxtQ K mg A) (mB_numbers_in:‹11› A.book "numbers_in" 1 ["self","segment"] (sp_numbers A.book)) (mQ_drop_first:‹11› A.queue "drop_first" 5 ["self"] (sp_q_dropf A)):‹9› 6 f fd ["self"] (sp_q_sweep A):=by
 refine F.okX sc_Queue_sweep (fun vs H Q E h=>?_) (fun cdv A' outer s H vs Q E hr h=>?_)
 ·obtain⟨L,q,I,rfl,_⟩:=h
  rfl
 ·obtain⟨L,q,I,rfl,hq,hI,hst,qq⟩:=h
  refine⟨_,@pss_cons _ _ _ _ _ (@ps_set _ _ (1) _ _ _ _ sc_Queue_sweep.nd (by rfl) (by first | exact Or.inl (by rfl) | exact Or.inr (by rfl)) ‹24› ⋯ ⋯) (@pss_cons _ _ _ _ _ (@ps_while _ _ _ _ _ _ (ownB own_cx) (@PW.pt _ _ _ (@pw_and _ _ _ _ _ _ _ (@pt_cmpR _ _ _ _ _ _ _ _ op_lt ‹32› ‹32› (nomark _)) (@pw_and1 _ _ _ _ (@pt_not _ _ _ _ (@pt_listK _ K _ _ (@pe_me _ _ _ _ _ _ _ _ _ _ _ _ _ _ _ mB_numbers_in T.cl_Book ‹15› passN ‹32› ‹50› ⋯ ⋯ ⋯) ⋯ ⋯))))) (@pss_cons _ _ _ _ _ (ps_expr (pe_me0 mQ_drop_first T.cl_Queue ‹15› passS (pv 0))) (@pss_one _ _ _ (@ps_aug _ _ (1) _ _ _ _ _ _ sc_Queue_sweep.nd (by rfl) (by first | exact Or.inl (by rfl) | exact Or.inr (by rfl)) ‹24› ip_add ⋯)))) (@pss_one _ _ _ (@ps_ret _ _ _ _ ‹21›))),?_⟩
  refine⟨fun m σ H3=>∃ L' q' n,m=(q'.last - q'.first).toNat/\Step L L' H H3/\QueueW A H3 L' q' false/\I q'/\σ = [some (.ref L.qu),some (.int n)],⟨_,L,q,0,rfl,Same.step (Same.refl H),hq,hI,rfl⟩,?_⟩
  rintro m σ H3 ⟨L',q',n,rfl,st,hq3,hI3,rfl⟩
  obtain⟨e1,e2,e3⟩:=hst q' hI3
  obtain⟨dx,h1⟩:=hq3.self
  obtain⟨db,hb⟩:=hq3.book.self
  rw[st.qu]at h1
  refine⟨_,rfl,L.qu,_,dx,_,_,rfl,h1,T.cl_Queue,T.f_first,rfl,_,rfl,L.qu,_,dx,_,_,rfl,h1,T.cl_Queue,T.f_last,rfl,_,_,rfl,rfl,_,rfl,?_⟩
  show if decide (q'.first<q'.last)=true then _ else _
  by_cases hlt:q'.first<q'.last
  ·rw[if_pos (decide_eq_true hlt)]
   obtain⟨l1,l2,⟨bs,l3⟩,l4⟩:=e3 hlt
   refine⟨_,rfl,L.qu,_,dx,_,_,rfl,h1,T.cl_Queue,T.f_book,rfl,L'.bk,db,_,rfl,hb,rfl,_,rfl,L.qu,_,dx,_,_,rfl,h1,T.cl_Queue,T.f_first,rfl,L'.bk,L'.de,L'.dp,q'.B,_,rfl,hq3.book,e1,fun p H4 S4 hp4 g4=>?_⟩
   refine⟨p,_,rfl,SqL.of g4,iteT ⟨fun σ' H'=>∃ L'' q'' n'',(q''.last - q''.first).toNat<(q'.last - q'.first).toNat/\Step L L'' H H'/\QueueW A H' L'' q'' false/\I q''/\σ'=[some (.ref L.qu),some (.int n'')],fun σ' H' ⟨L'',q'',n'',w1,w2,w3,w4,w5⟩=>⟨_,w1,L'',q'',n'',rfl,w2,w3,w4,w5⟩,?_⟩⟩
   have hq4:=hq3.same S4
   obtain⟨dx4,h4⟩:=hq4.self
   rw[st.qu]at h4
   refine⟨_,rfl,L.qu,dx4,_,rfl,h4,rfl,L',q',false,bs,by rw[st.qu],hq4,l1,l2,l3,fun L5 H5 st5 hq5=>?_⟩
   exact⟨.int n,rfl,_,_,rfl,rfl,L5,dropF q',n+1,by show (q'.last - (q'.first+1)).toNat<_; omega,st.trans ((Same.step S4).trans st5),hq5,l4,rfl⟩
  ·rw[if_neg (by rw[decide_eq_true_eq]; exact hlt)]
   exact iteF ⟨_,rfl,qq L' q' H3 n st hq3 hI3 (by omega)⟩
theorem sc_Queue_carry:FnScope ["self","numbers","number","letter","times"] ["self"] (defScope s_q_carry):=‹0›
set_option maxHeartbeats 1000000 in
theorem ok_q_carry {f:Addr} {fd:FuncData} (F:Fun K "carry" "Queue.carry" s_q_carry f fd) (T:TxtQ K mg A) (mB_numbers_in:‹11› A.book "numbers_in" 1 ["self","segment"] (sp_numbers A.book)) (mB_letter:‹11› A.book "letter" 1 ["self","number"] (sp_letter A.book)) (mQ_drop_first:‹11› A.queue "drop_first" 5 ["self"] (sp_q_dropf A)) (mQ_write:‹6›):‹9› 8 f fd ["self"] (sp_q_carry A):=by
 obtain⟨_,hc_HIGHEST_TIMES⟩:=T.c_HIGHEST_TIMES
 refine F.okX sc_Queue_carry (fun vs H Q E h=>?_) (fun cdv A' outer s H vs Q E hr h=>?_)
 ·obtain⟨L,q,rfl,_⟩:=h
  rfl
 ·obtain⟨L,q,rfl,hq,he,q1,q2⟩:=h
  refine⟨_,@pss_cons _ _ _ _ _ (@ps_if _ _ _ _ _ _ _ _ (@pt_cmpR _ _ _ _ _ _ _ _ op_eq ‹32› ‹32› (nomark _)) (@pss_one _ _ _ (@ps_ret _ _ _ _ (@pe_non _ _ _))) (@pss_nil _)) (@pss_cons _ _ _ _ _ (@ps_set _ _ (1) _ _ _ _ sc_Queue_carry.nd (by rfl) (by first | exact Or.inl (by rfl) | exact Or.inr (by rfl)) (@pe_me _ _ _ _ _ _ _ _ _ _ _ _ _ _ _ mB_numbers_in T.cl_Book ‹15› passN ‹32› ‹50› ⋯ ⋯ ⋯) ⋯ ⋯) (@pss_cons _ _ _ _ _ (@ps_for _ _ _ _ _ _ _ _ (ownB own_cx) (by rfl) (@pi_listK _ K _ _ _ ‹21› ⋯) (@pg_name _ _ (2) _ sc_Queue_carry.nd (by rfl) (by first | exact Or.inl (by rfl) | exact Or.inr (by rfl)) ⋯) (@pss_cons _ _ _ _ _ (@ps_set _ _ (3) _ _ _ _ sc_Queue_carry.nd (by rfl) (by first | exact Or.inl (by rfl) | exact Or.inr (by rfl)) (@pe_me _ _ _ _ _ _ _ _ _ _ _ _ _ _ _ mB_letter T.cl_Book ‹15› passN ‹32› ‹47› ⋯ ⋯ ⋯) ⋯ ⋯) (@pss_cons _ _ _ _ _ (@ps_set _ _ (4) _ _ _ _ sc_Queue_carry.nd (by rfl) (by first | exact Or.inl (by rfl) | exact Or.inr (by rfl)) (@pe_callB _ _ _ _ _ _ _ _ _ (call_min2 (by rfl)) (by rfl) T.n_min bt_min (@pa_Subscript _ _ _ _ _ _ _ ‹39› (@pa_Name _ _ _ _ _ _ (@pe_glob _ _ (.int 9) _ _ (by rfl) hc_HIGHEST_TIMES ⟨_,rfl⟩ ⋯) (@pa_nil _))) ⋯ ⋯ ⋯ ⋯) ⋯ ⋯) (@pss_one _ _ _ (ps_expr (pe_me mQ_write T.cl_Queue ‹15› passS (pv 0) (pa_List (pe_lst (pa_Tuple (pe_tup (pa_Constant pe_str (pa_Name (pv 2) (pa_BinOp (pe_op op_cat2 (pe_tup (pa_Name (pv 4) pa_nil)) (pe_ix (ix_tupK K) (pv 3) pe_int (fun _ _=>rfl))) pa_nil)))) pa_nil)) pa_nil)))))) ⋯) (@pss_cons _ _ _ _ _ (ps_expr (pe_me0 mQ_drop_first T.cl_Queue ‹15› passS (pv 0))) (@pss_one _ _ _ (@ps_ret _ _ _ _ ‹33›))))),?_⟩
  obtain⟨dx,h1⟩:=hq.self
  refine⟨_,rfl,L.qu,_,dx,_,_,rfl,h1,T.cl_Queue,T.f_first,rfl,_,rfl,L.qu,_,dx,_,_,rfl,h1,T.cl_Queue,T.f_last,rfl,rfl,_,rfl,?_⟩
  by_cases hfl:q.first=q.last
  ·rw[decide_eq_true (show V.int q.first=V.int q.last by rw[hfl])]
   exact iteT (q1 hfl)
  rw[dint_ne hfl]
  refine iteF (go_next rfl ?_)
  obtain⟨l1,l2,⟨bs,l3⟩,qq⟩:=q2 hfl
  obtain⟨db,h2⟩:=hq.book.self
  refine⟨_,rfl,L.qu,_,dx,_,_,rfl,h1,T.cl_Queue,T.f_book,rfl,L.bk,db,_,rfl,h2,rfl,_,rfl,L.qu,_,dx,_,_,rfl,h1,T.cl_Queue,T.f_first,rfl,L.bk,L.de,L.dp,q.B,_,rfl,hq.book,he,fun p H4 S4 hp4 g4=>?_⟩
  refine⟨_,rfl,p,rfl,⟨_,SqL.of g4⟩,?_⟩
  refine for_src0 (src_list (K:=K) (SqL.of g4)) (fun i σ H'=>Same H4 H'/\∃ z2 z3 z4,σ = [some (.ref L.qu),some (.ref p),z2,z3,z4]) ⟨Same.refl _,_,_,_,rfl⟩ (fun i σ H' h=>h.1) (fun i x σ H5 H6 hi=>absurd hi (Nat.not_lt_zero i)) ?_
  rintro σ H5 ⟨s5,z2,z3,z4,rfl⟩
  have S5:=S4.trans s5
  have hq5:=hq.same S5
  obtain⟨dx5,h5⟩:=hq5.self
  refine⟨_,rfl,L.qu,dx5,_,rfl,h5,rfl,L,q,false,bs,rfl,hq5,l1,l2,l3,fun L' H6 st6 hq6=>?_⟩
  have np:¬ isQu L p:=fun z=>by
   obtain⟨o,e⟩:=isQu_in hq z
   rw[e]at hp4
   cases hp4
  have g6:=st6.frm _ _ (s5 _ _ g4) np
  exact⟨_,rfl,p,_,rfl,.inl (SqL.of g6),qq L' H6 ((Same.step S5).trans st6) hq6⟩
end
end Qh
end
section
namespace Qh
open PySem L2
abbrev s_q_init:Stmt:=inClass (top 53) 0
def initQ (D:Dk) (ms:List Int) (B:Bk) (most hold tries:Int):Qs:=⟨(goodN D ms).1,B,most,hold,tries,(goodN D ms).2.headD 0,(goodN D ms).2.getLastD 0,0,[]⟩
theorem goodB_ne {D:Dk} {ms:List Int} (h:ms≠[]):(goodB D ms).2≠[]:=by
 unfold goodB
 split
 ·rename_i z
  intro y
  have:=congrArg List.length y
  rw[List.length_dropLast]at this
  have z2:=z.2
  rw[List.length_nil]at this
  omega
 ·dsimp only
  split <;> exact h
theorem goodN_ne {D:Dk} {ms:List Int}:(goodN D ms).2≠[]:=by
 unfold goodN
 split
 ·exact goodB_ne (by simp)
 ·exact goodB_ne ‹_›
def sp_q_init (A:Ad):Sp:=fun vs H Q _=>∃ (qu dx dk df:Addr) (kvs:List (Key × V)) (D:Dk) (ns ms:List Int) (B:Bk) (most hold tries:Int),vs=[.ref qu,.ref dk,.int most,.int hold,.int tries]/\H qu=some (.ins A.queue dx [])/\DiskAt A.disk H dk df kvs D/\¬ own dk df kvs qu/\setOk (.int most) (.int hold) (.int tries)=true/\D.left=none/\DiskOk D ns/\List.Perm ms ns/\ms.Pairwise (· <= ·)/\gapless ms/\(∀ bs,lookF D.fs (segN (ms.getLastD 0))=some bs->readL (bs.length+1) bs≠none)/\bookL D (ms.getLastD 0) ms ⟨[],0,[]⟩=some B/\
 ∀ L' H',L'.qu=qu->L'.dk=dk->(∀ b o,H b=some o->b≠qu->¬ own dk df kvs b->H' b=some o)->(∀ b,isQu L' b->b=qu\/own dk df kvs b\/H b=none)->QueueW A H' L' (initQ D ms B most hold tries) false->Q .non H'
section
variable {P:Program} {w:World} {K:PySem.W.Frag} {mg:Str->Option Value} {base:Heap} {A:Ad}
theorem sc_Queue___init__:FnScope ["self","disk","most","hold","tries","segments"] ["self","disk","most","hold","tries"] (defScope s_q_init):=‹0›
set_option maxHeartbeats 2000000 in
theorem ok_q_init {f:Addr} {fd:FuncData} (F:Fun K "__init__" "Queue.__init__" s_q_init f fd) (T:TxtQ K mg A) (c_check_settings:‹10› "check_settings" 2 ["most","hold","tries"] (sp_check_settings A)) (c_book_of:‹10› "book_of" 7 ["disk"] (sp_book_of A)) (c_make_good:‹10› "make_good" 6 ["disk"] (sp_make_good A)):‹9› 8 f fd ["self","disk","most","hold","tries"] (sp_q_init A):=by
 refine F.okX sc_Queue___init__ (fun vs H Q E h=>?_) (fun cdv A' outer s H vs Q E hr h=>?_)
 ·obtain⟨qu,dx,dk,df,kvs,D,ns,ms,B,most,hold,tries,rfl,_⟩:=h
  rfl
 ·obtain⟨qu,dx,dk,df,kvs,D,ns,ms,B,most,hold,tries,rfl,h0,hD,nqu,hset,hl,ok,perm,pw,hg,hread,hbook,qq⟩:=h
  refine⟨_,@pss_cons _ _ _ _ _ (ps_expr (pe_fn c_check_settings ‹15› passS (pa_Name (pv 2) (pa_Name (pv 3) (pa_Name (pv 4) pa_nil))))) (@pss_cons _ _ _ _ _ (@ps_fld _ _ _ _ _ _ _ _ ‹20› ‹21› (by rfl)) (@pss_cons _ _ _ _ _ (@ps_fld _ _ _ _ _ _ _ _ ‹20› ‹25› (by rfl)) (@pss_cons _ _ _ _ _ (@ps_fld _ _ _ _ _ _ _ _ ‹20› ‹26› (by rfl)) (@pss_cons _ _ _ _ _ (@ps_fld _ _ _ _ _ _ _ _ ‹20› ‹28› (by rfl)) (@pss_cons _ _ _ _ _ (@ps_fld _ _ _ _ _ _ _ _ ‹20› (@pe_fn _ _ _ _ _ _ _ _ _ _ _ c_book_of ‹15› passS ‹40› ⋯ ⋯ ⋯ ⋯) (by rfl)) (@pss_cons _ _ _ _ _ (@ps_set _ _ (5) _ _ _ _ sc_Queue___init__.nd (by rfl) (by first | exact Or.inl (by rfl) | exact Or.inr (by rfl)) (@pe_fn _ _ _ _ _ _ _ _ _ _ _ c_make_good ‹15› passS ‹40› ⋯ ⋯ ⋯ ⋯) ⋯ ⋯) (@pss_cons _ _ _ _ _ (@ps_fld _ _ _ _ _ _ _ _ ‹20› (@pe_ix _ _ _ _ _ _ _ (ix_listK K) ‹30› ‹24› (fun _ _=>rfl)) (by rfl)) (@pss_cons _ _ _ _ _ (@ps_fld _ _ _ _ _ _ _ _ ‹20› (@pe_ix _ _ _ _ _ _ _ (ix_listK K) ‹30› (@pe_un _ _ _ _ _ _ un_neg ‹24›) (fun _ _=>rfl)) (by rfl)) (@pss_cons _ _ _ _ _ (@ps_fld _ _ _ _ _ _ _ _ ‹20› (@pe_bl _ _ _ _) (by rfl)) (@pss_cons _ _ _ _ _ (@ps_fld _ _ _ _ _ _ _ _ ‹20› (@pe_dnewK _ _) (by rfl)) (@pss_one _ _ _ (@ps_fld _ _ _ _ _ _ _ _ ‹20› ‹24› (by rfl))))))))))))),?_⟩
  have ddk:∀ {H':Hp},But qu H H'->DiskAt A.disk H' dk df kvs D:=fun b=>hD.keep fun c o e hc=>b c o e (fun z=>by rw[z]at hc; exact nqu hc)
  refine⟨_,rfl,_,rfl,_,rfl,.int most,.int hold,.int tries,.int most,.int hold,.int tries,rfl,by simp only[Den],by simp only[Den],by simp only[Den],fun _=>?_,(fun z=>by rw[hset]at z; cases z)⟩
  have but:∀ {H1:Hp} {o:HO},But qu H H1->But qu H (upd H1 qu o):=fun b c o e nc=>by rw[upd_ne nc]; exact b c o e nc
  refine⟨_,rfl,_,rfl,qu,_,dx,_,rfl,h0,T.cl_Queue,T.f_disk,(Nat.le_of_ble_eq_true rfl),?_⟩
  have b1:But qu H (upd H qu (.ins A.queue dx (putF "disk" (.ref dk) []))):=but (fun _ _ e _=>e)
  have h1:upd H qu (.ins A.queue dx (putF "disk" (.ref dk) [])) qu=some (.ins A.queue dx [("disk",.ref dk)]):=upd_same
  generalize upd H qu (.ins A.queue dx (putF "disk" (.ref dk) []))=H1 at b1 h1 ⊢
  refine⟨_,rfl,_,rfl,qu,_,dx,_,rfl,h1,T.cl_Queue,T.f_most,(Nat.le_of_ble_eq_true rfl),?_⟩
  have b2:=but (o:=.ins A.queue dx (putF "most" (.int most) [("disk",.ref dk)])) b1
  have h2:upd H1 qu (.ins A.queue dx (putF "most" (.int most) [("disk",.ref dk)])) qu=some (.ins A.queue dx [("disk",.ref dk),("most",.int most)]):=upd_same
  generalize upd H1 qu (.ins A.queue dx (putF "most" (.int most) [("disk",.ref dk)]))=H2 at b2 h2 ⊢
  refine⟨_,rfl,_,rfl,qu,_,dx,_,rfl,h2,T.cl_Queue,T.f_hold,(Nat.le_of_ble_eq_true rfl),?_⟩
  have b3:=but (o:=.ins A.queue dx (putF "hold" (.int hold) [("disk",.ref dk),("most",.int most)])) b2
  have h3:upd H2 qu (.ins A.queue dx (putF "hold" (.int hold) [("disk",.ref dk),("most",.int most)])) qu=some (.ins A.queue dx [("disk",.ref dk),("most",.int most),("hold",.int hold)]):=upd_same
  generalize upd H2 qu (.ins A.queue dx (putF "hold" (.int hold) [("disk",.ref dk),("most",.int most)]))=H3 at b3 h3 ⊢
  refine⟨_,rfl,_,rfl,qu,_,dx,_,rfl,h3,T.cl_Queue,T.f_tries,(Nat.le_of_ble_eq_true rfl),?_⟩
  have b4:=but (o:=.ins A.queue dx (putF "tries" (.int tries) [("disk",.ref dk),("most",.int most),("hold",.int hold)])) b3
  have h4:upd H3 qu (.ins A.queue dx (putF "tries" (.int tries) [("disk",.ref dk),("most",.int most),("hold",.int hold)])) qu=some (.ins A.queue dx [("disk",.ref dk),("most",.int most),("hold",.int hold),("tries",.int tries)]):=upd_same
  generalize upd H3 qu (.ins A.queue dx (putF "tries" (.int tries) [("disk",.ref dk),("most",.int most),("hold",.int hold)]))=H4 at b4 h4 ⊢
  refine⟨_,rfl,dk,df,kvs,D,ns,rfl,ddk b4,ok,fun ms' perm' pw'=>?_⟩
  have em:ms'=ms:=sorted_uniq (perm'.trans perm.symm) pw' pw
  subst ms'
  refine⟨fun z=>absurd hg z,fun _=>⟨(fun z=>by rw[hbook]at z; cases z),fun B' hB' _ bk de dp H5 S5 hbk hde hdp hB5=>?_⟩⟩
  rw[hbook]at hB'
  cases hB'
  have n4:∀ {c:Addr},H4 c=none->c≠qu/\H c=none:=fun {c} z=>by
   refine⟨(fun y=>by rw[y,h4]at z; cases z),?_⟩
   cases e:H c with
   | none=>rfl
   | some o=>
    by_cases y:c=qu
    ·rw[y,h4]at z; cases z
    ·rw[b4 c o e y]at z; cases z
  obtain⟨nbk,ibk⟩:=n4 hbk
  obtain⟨nde,ide⟩:=n4 hde
  obtain⟨ndp,idp⟩:=n4 hdp
  have b5:But qu H H5:=fun c o e nc=>S5 _ _ (b4 c o e nc)
  refine⟨_,rfl,qu,_,dx,_,rfl,S5 _ _ h4,T.cl_Queue,T.f_book,(Nat.le_of_ble_eq_true rfl),?_⟩
  have b6:=but (o:=.ins A.queue dx (putF "book" (.ref bk) [("disk",.ref dk),("most",.int most),("hold",.int hold),("tries",.int tries)])) b5
  have h6:upd H5 qu (.ins A.queue dx (putF "book" (.ref bk) [("disk",.ref dk),("most",.int most),("hold",.int hold),("tries",.int tries)])) qu=some (.ins A.queue dx [("disk",.ref dk),("most",.int most),("hold",.int hold),("tries",.int tries),("book",.ref bk)]):=upd_same
  have t6:TupS H5 (upd H5 qu (.ins A.queue dx (putF "book" (.ref bk) [("disk",.ref dk),("most",.int most),("hold",.int hold),("tries",.int tries)]))):=tup_upd (S5 _ _ h4) (fun xs z=>by cases z)
  have hB6:BookAt A.book (upd H5 qu (.ins A.queue dx (putF "book" (.ref bk) [("disk",.ref dk),("most",.int most),("hold",.int hold),("tries",.int tries)]))) bk de dp B:=hB5.keep (fun c o e hc=>by
   rw[upd_ne (fun z=>by
    rw[z]at hc
    rcases hc with y | y | y
    ·exact nbk y.symm
    ·exact nde y.symm
    ·exact ndp y.symm)]
   exact e) t6
  generalize upd H5 qu (.ins A.queue dx (putF "book" (.ref bk) [("disk",.ref dk),("most",.int most),("hold",.int hold),("tries",.int tries)]))=H6 at b6 h6 t6 hB6 ⊢
  have hD6:=ddk b6
  refine⟨_,rfl,dk,df,kvs,D,ns,rfl,hD6,hl,ok,fun ms' perm' pw'=>?_⟩
  have em:ms'=ms:=sorted_uniq (perm'.trans perm.symm) pw' pw
  subst ms'
  refine⟨hg,hread,fun kvs' H7 f7 w7 hD7 p gp np=>?_⟩
  have far:∀ {c:Addr} {o:HO},H6 c=some o->¬ own dk df kvs c->¬ own dk df kvs' c:=fun e nc z=>(w7 _ z).elim nc (fun y=>by rw[y]at e; cases e)
  have nown:∀ {c:Addr},H c=none->¬ own dk df kvs c:=fun z y=>by
   obtain⟨o,e⟩:=own_in hD y
   rw[z]at e
   cases e
  have h7:=f7 _ _ h6 nqu
  have t7:TupS H6 H7:=f7.tup hD6
  have hB7:BookAt A.book H7 bk de dp B:=hB6.keep (fun c o e hc=>f7 c o e (by
   rcases hc with y | y | y
   ·rw[y]; exact nown ibk
   ·rw[y]; exact nown ide
   ·rw[y]; exact nown idp)) t7
  have npq:p≠qu:=fun z=>by rw[z,h7]at gp; cases gp
  have hne:=goodN_ne (D:=D) (ms:=ms)
  obtain⟨s0,ss,es⟩:=List.exists_cons_of_ne_nil hne
  have b7:∀ b o,H b=some o->b≠qu->¬ own dk df kvs b->H7 b=some o:=fun b o e nb no=>f7 b o (b6 b o e nb) no
  have nqu':¬ own dk df kvs' qu:=far h6 nqu
  have nbk':∀ {c:Addr} {o:HO},H6 c=some o->H c=none->¬ own dk df kvs' c:=fun e z=>far e (nown z)
  have base:∀ {G G':Hp} {o:HO},(∀ c u,H7 c=some u->c≠qu->G c=some u)->G'=upd G qu o->∀ c u,H7 c=some u->c≠qu->G' c=some u:=fun h e c u z n=>by rw[e,upd_ne n]; exact h c u z n
  have k7:∀ c u,H7 c=some u->c≠qu->H7 c=some u:=fun _ _ e _=>e
  refine⟨_,rfl,p,_,_,.int ((goodN D ms).2.headD 0),rfl,rfl,SqL.of gp,atI_pos (by decide) (by rw[es]; rfl),_,rfl,qu,_,dx,_,rfl,h7,T.cl_Queue,T.f_first,(Nat.le_of_ble_eq_true rfl),?_⟩
  have h8:upd H7 qu (.ins A.queue dx (putF "first" (.int ((goodN D ms).2.headD 0)) [("disk",.ref dk),("most",.int most),("hold",.int hold),("tries",.int tries),("book",.ref bk)])) qu=some (.ins A.queue dx [("disk",.ref dk),("most",.int most),("hold",.int hold),("tries",.int tries),("book",.ref bk),("first",.int ((goodN D ms).2.headD 0))]):=upd_same
  have k8:=base (G':=upd H7 qu (.ins A.queue dx (putF "first" (.int ((goodN D ms).2.headD 0)) [("disk",.ref dk),("most",.int most),("hold",.int hold),("tries",.int tries),("book",.ref bk)]))) k7 rfl
  generalize upd H7 qu (.ins A.queue dx (putF "first" (.int ((goodN D ms).2.headD 0)) [("disk",.ref dk),("most",.int most),("hold",.int hold),("tries",.int tries),("book",.ref bk)]))=H8 at h8 k8 ⊢
  refine⟨_,rfl,1,rfl,p,_,_,.int ((goodN D ms).2.getLastD 0),rfl,rfl,SqL.of (k8 _ _ gp npq),last_at hne,_,rfl,qu,_,dx,_,rfl,h8,T.cl_Queue,T.f_last,(Nat.le_of_ble_eq_true rfl),?_⟩
  have h9:upd H8 qu (.ins A.queue dx (putF "last" (.int ((goodN D ms).2.getLastD 0)) [("disk",.ref dk),("most",.int most),("hold",.int hold),("tries",.int tries),("book",.ref bk),("first",.int ((goodN D ms).2.headD 0))])) qu=some (.ins A.queue dx [("disk",.ref dk),("most",.int most),("hold",.int hold),("tries",.int tries),("book",.ref bk),("first",.int ((goodN D ms).2.headD 0)),("last",.int ((goodN D ms).2.getLastD 0))]):=upd_same
  have k9:=base (G':=upd H8 qu (.ins A.queue dx (putF "last" (.int ((goodN D ms).2.getLastD 0)) [("disk",.ref dk),("most",.int most),("hold",.int hold),("tries",.int tries),("book",.ref bk),("first",.int ((goodN D ms).2.headD 0))]))) k8 rfl
  generalize upd H8 qu (.ins A.queue dx (putF "last" (.int ((goodN D ms).2.getLastD 0)) [("disk",.ref dk),("most",.int most),("hold",.int hold),("tries",.int tries),("book",.ref bk),("first",.int ((goodN D ms).2.headD 0))]))=H9 at h9 k9 ⊢
  refine⟨_,rfl,qu,_,dx,_,rfl,h9,T.cl_Queue,T.f_writing,(Nat.le_of_ble_eq_true rfl),?_⟩
  have h10:upd H9 qu (.ins A.queue dx (putF "writing" (.bl false) [("disk",.ref dk),("most",.int most),("hold",.int hold),("tries",.int tries),("book",.ref bk),("first",.int ((goodN D ms).2.headD 0)),("last",.int ((goodN D ms).2.getLastD 0))])) qu=some (.ins A.queue dx [("disk",.ref dk),("most",.int most),("hold",.int hold),("tries",.int tries),("book",.ref bk),("first",.int ((goodN D ms).2.headD 0)),("last",.int ((goodN D ms).2.getLastD 0)),("writing",.bl false)]):=upd_same
  have k10:=base (G':=upd H9 qu (.ins A.queue dx (putF "writing" (.bl false) [("disk",.ref dk),("most",.int most),("hold",.int hold),("tries",.int tries),("book",.ref bk),("first",.int ((goodN D ms).2.headD 0)),("last",.int ((goodN D ms).2.getLastD 0))]))) k9 rfl
  generalize upd H9 qu (.ins A.queue dx (putF "writing" (.bl false) [("disk",.ref dk),("most",.int most),("hold",.int hold),("tries",.int tries),("book",.ref bk),("first",.int ((goodN D ms).2.headD 0)),("last",.int ((goodN D ms).2.getLastD 0))]))=H10 at h10 k10 ⊢
  refine fun hd hhd=>?_
  have nhq:hd≠qu:=fun z=>by rw[z,h10]at hhd; cases hhd
  have hh7:H7 hd=none:=by
   cases e:H7 hd with
   | none=>rfl
   | some o=>rw[k10 _ _ e nhq]at hhd; cases hhd
  have S11:=same_upd (o:=.dK []) hhd
  have gh:upd H10 hd (.dK []) hd=some (.dK []):=upd_same
  generalize upd H10 hd (.dK [])=H11 at S11 gh ⊢
  have h11:=S11 _ _ h10
  have k11:∀ c u,H7 c=some u->c≠qu->H11 c=some u:=fun c u e n=>S11 _ _ (k10 c u e n)
  refine⟨_,rfl,qu,_,dx,_,rfl,h11,T.cl_Queue,T.f_holders,(Nat.le_of_ble_eq_true rfl),?_⟩
  have h12:upd H11 qu (.ins A.queue dx (putF "holders" (.ref hd) [("disk",.ref dk),("most",.int most),("hold",.int hold),("tries",.int tries),("book",.ref bk),("first",.int ((goodN D ms).2.headD 0)),("last",.int ((goodN D ms).2.getLastD 0)),("writing",.bl false)])) qu=some (.ins A.queue dx [("disk",.ref dk),("most",.int most),("hold",.int hold),("tries",.int tries),("book",.ref bk),("first",.int ((goodN D ms).2.headD 0)),("last",.int ((goodN D ms).2.getLastD 0)),("writing",.bl false),("holders",.ref hd)]):=upd_same
  have k12:=base (G':=upd H11 qu (.ins A.queue dx (putF "holders" (.ref hd) [("disk",.ref dk),("most",.int most),("hold",.int hold),("tries",.int tries),("book",.ref bk),("first",.int ((goodN D ms).2.headD 0)),("last",.int ((goodN D ms).2.getLastD 0)),("writing",.bl false)]))) k11 rfl
  have gh12:upd H11 qu (.ins A.queue dx (putF "holders" (.ref hd) [("disk",.ref dk),("most",.int most),("hold",.int hold),("tries",.int tries),("book",.ref bk),("first",.int ((goodN D ms).2.headD 0)),("last",.int ((goodN D ms).2.getLastD 0)),("writing",.bl false)])) hd=some (.dK []):=by rw[upd_ne nhq]; exact gh
  generalize upd H11 qu (.ins A.queue dx (putF "holders" (.ref hd) [("disk",.ref dk),("most",.int most),("hold",.int hold),("tries",.int tries),("book",.ref bk),("first",.int ((goodN D ms).2.headD 0)),("last",.int ((goodN D ms).2.getLastD 0)),("writing",.bl false)]))=H12 at h12 k12 gh12 ⊢
  refine⟨_,rfl,qu,_,dx,_,rfl,h12,T.cl_Queue,T.f_now,(Nat.le_of_ble_eq_true rfl),?_⟩
  have h13:upd H12 qu (.ins A.queue dx (putF "now" (.int 0) [("disk",.ref dk),("most",.int most),("hold",.int hold),("tries",.int tries),("book",.ref bk),("first",.int ((goodN D ms).2.headD 0)),("last",.int ((goodN D ms).2.getLastD 0)),("writing",.bl false),("holders",.ref hd)])) qu=some (.ins A.queue dx [("disk",.ref dk),("most",.int most),("hold",.int hold),("tries",.int tries),("book",.ref bk),("first",.int ((goodN D ms).2.headD 0)),("last",.int ((goodN D ms).2.getLastD 0)),("writing",.bl false),("holders",.ref hd),("now",.int 0)]):=upd_same
  have k13:=base (G':=upd H12 qu (.ins A.queue dx (putF "now" (.int 0) [("disk",.ref dk),("most",.int most),("hold",.int hold),("tries",.int tries),("book",.ref bk),("first",.int ((goodN D ms).2.headD 0)),("last",.int ((goodN D ms).2.getLastD 0)),("writing",.bl false),("holders",.ref hd)]))) k12 rfl
  have gh13:upd H12 qu (.ins A.queue dx (putF "now" (.int 0) [("disk",.ref dk),("most",.int most),("hold",.int hold),("tries",.int tries),("book",.ref bk),("first",.int ((goodN D ms).2.headD 0)),("last",.int ((goodN D ms).2.getLastD 0)),("writing",.bl false),("holders",.ref hd)])) hd=some (.dK []):=by rw[upd_ne nhq]; exact gh12
  generalize upd H12 qu (.ins A.queue dx (putF "now" (.int 0) [("disk",.ref dk),("most",.int most),("hold",.int hold),("tries",.int tries),("book",.ref bk),("first",.int ((goodN D ms).2.headD 0)),("last",.int ((goodN D ms).2.getLastD 0)),("writing",.bl false),("holders",.ref hd)]))=H13 at h13 k13 gh13 ⊢
  have t13:TupS H7 H13:=fun b xs e=>k13 b _ e (fun z=>by rw[z,h7]at e; cases e)
  obtain⟨db,hb1⟩:=hB7.self
  obtain⟨kb,hb2,_⟩:=hB7.ent
  obtain⟨pb,hb3,_⟩:=hB7.par
  obtain⟨dc,hc1⟩:=hB6.self
  obtain⟨kc,hc2,_⟩:=hB6.ent
  obtain⟨pc,hc3,_⟩:=hB6.par
  have nh:∀ {c:Addr} {o:HO},H7 c=some o->hd≠c:=fun e z=>by rw[z,e]at hh7; cases hh7
  have nhd:¬ own dk df kvs' hd:=fun z=>by
   obtain⟨o,e⟩:=own_in hD7 z
   rw[hh7]at e
   cases e
  have hh0:H hd=none\/own dk df kvs hd:=by
   by_cases y:own dk df kvs hd
   ·exact .inr y
   ·refine .inl ?_
    cases e:H hd with
    | none=>rfl
    | some o=>rw[b7 _ _ e nhq y]at hh7; cases hh7
  refine qq ⟨qu,dk,df,bk,de,dp,hd,kvs'⟩ H13 rfl rfl (fun b o e nb no=>k13 b o (b7 b o e nb no) nb) (fun b hb=>?_) ⟨⟨dx,h13⟩,hD7.keep (fun c o e hc=>k13 c o e (fun z=>by rw[z]at hc; exact nqu' hc)),hB7.keep (fun c o e hc=>k13 c o e (fun z=>?_)) t13,⟨[],gh13,trivial⟩,fun b hb=>?_,⟨fun z=>?_,nqu'⟩,⟨nhq,fun z=>?_,nhd⟩⟩
  ·rcases hb with z | z | (z | z | z) | z
   ·exact .inl z
   ·rcases hh0 with y | y
    ·exact .inr (.inr (by rw[z]; exact y))
    ·exact .inr (.inl (by rw[z]; exact y))
   ·exact .inr (.inr (by rw[z]; exact ibk))
   ·exact .inr (.inr (by rw[z]; exact ide))
   ·exact .inr (.inr (by rw[z]; exact idp))
   ·rcases w7 b z with y | y
    ·exact .inr (.inl y)
    ·by_cases x:b=qu
     ·exact .inl x
     ·refine .inr (.inr ?_)
      cases e:H b with
      | none=>rfl
      | some o=>rw[b6 b o e x]at y; cases y
  ·rw[z]at hc
   rcases hc with y | y | y
   ·exact nbk y.symm
   ·exact nde y.symm
   ·exact ndp y.symm
  ·rcases hb with z | z | z
   ·exact nbk' (by rw[z]; exact hc1) (by rw[z]; exact ibk)
   ·exact nbk' (by rw[z]; exact hc2) (by rw[z]; exact ide)
   ·exact nbk' (by rw[z]; exact hc3) (by rw[z]; exact idp)
  ·rcases z with y | y | y
   ·exact nbk y.symm
   ·exact nde y.symm
   ·exact ndp y.symm
  ·rcases z with y | y | y
   ·exact nh hb1 y
   ·exact nh hb2 y
   ·exact nh hb3 y
end
end Qh
end
section
namespace Qh
open PySem L2
abbrev s_mix:Stmt:=top 63
abbrev s_cell:Stmt:=top 62
abbrev s_lqueue:Stmt:=top 64
theorem pw_nat {a b:Int} (h:0<=a) (h2:a<2147483647):a.natAbs<2 ^ 64:=by omega
def sp_cell (K:PySem.W.Frag):Sp:=fun vs H Q _=>∃ (a:Addr) (ns:List Int) (k:Int),vs=[.ref a,.int k]/\0<=k/\SqL K H a (ns.map V.int)/\Q (.int (ns.getD k.toNat 0)) H
def mixF (c p m:Int):Int:=(c * 48271 % p) ^ 3 % p % m
def sp_mix:Sp:=fun vs H Q _=>∃ (c p m:Int),vs=[.int c,.int p,.int m]/\0<p/\p<2147483647/\0<m/\Q (.int (mixF c p m)) H
theorem look_some {fs:List (Str × List Int)} {n:Str} (h:n∈fs.map (·.1)):∃ bs,lookF fs n=some bs:=by
 cases e:lookF fs n with
 | none=>exact absurd h (look_none e)
 | some bs=>exact⟨bs,rfl⟩
def tabF (fs:List (Str × List Int)) (ms:List Str):List (Str × List Int):=ms.map fun n=>(n,(lookF fs n).getD [])
section
variable {P:Program} {w:World} {K:PySem.W.Frag} {mg:Str->Option Value} {base:Heap} {a_KINDS C_BadRow:Addr} {A:Ad}
theorem sc__law_cell:FnScope ["_law_script","_law_k"] ["_law_script","_law_k"] (defScope s_cell):=‹0›
theorem ok_cell {f:Addr} {fd:FuncData} (F:Fun K "_law_cell" "_law_cell" s_cell f fd) (T:TxtQ K mg A):‹9› 1 f fd ["_law_script","_law_k"] (sp_cell K):=by
 refine F.okX sc__law_cell (fun vs H Q E h=>?_) (fun cdv A' outer s H vs Q E hr h=>?_)
 ·obtain⟨a,ns,k,rfl,_⟩:=h
  rfl
 ·obtain⟨a,ns,k,rfl,k0,hs,q⟩:=h
  refine⟨_,@pss_cons _ _ _ _ _ (@ps_if _ _ _ _ _ _ _ _ (@pt_cmpR _ _ _ _ _ _ _ _ op_lt ‹21› ‹34› (nomark _)) (@pss_one _ _ _ (@ps_ret _ _ _ _ (@pe_ix _ _ _ _ _ _ _ (ix_listK K) ‹20› ‹21› (fun _ _=>rfl)))) (@pss_nil _)) (@pss_one _ _ _ (@ps_ret _ _ _ _ ‹24›)),?_⟩
  refine⟨_,rfl,_,rfl,a,_,rfl,.inl hs,_,_,rfl,rfl,_,rfl,?_⟩
  rw[List.length_map]
  show if decide (k<(ns.length:Int))=true then _ else _
  by_cases hk:k<(ns.length:Int)
  ·rw[if_pos (decide_eq_true hk)]
   have hl:k.toNat<ns.length:=by omega
   have eg:ns.getD k.toNat 0=ns[k.toNat]:=by
    rw[List.getD_eq_getElem?_getD,List.getElem?_eq_getElem hl]
    rfl
   rw[eg]at q
   exact⟨_,rfl,_,rfl,a,_,_,_,rfl,rfl,hs,atI_pos k0 (by rw[List.getElem?_map,List.getElem?_eq_getElem hl]; rfl),q⟩
  ·rw[if_neg (by simpa using hk)]
   have eg:ns.getD k.toNat 0=0:=by
    rw[List.getD_eq_getElem?_getD,List.getElem?_eq_none (by omega)]
    rfl
   rw[eg]at q
   exact q
theorem sc__law_mix:FnScope ["_law_cell_here","_law_prime","_law_many"] ["_law_cell_here","_law_prime","_law_many"] (defScope s_mix):=‹0›
theorem ok_mix {f:Addr} {fd:FuncData} (F:Fun K "_law_mix" "_law_mix" s_mix f fd):‹9› 1 f fd ["_law_cell_here","_law_prime","_law_many"] sp_mix:=by
 refine F.okX sc__law_mix (fun vs H Q E h=>?_) (fun cdv A' outer s H vs Q E hr h=>?_)
 ·obtain⟨c,p,m,rfl,_⟩:=h
  rfl
 ·obtain⟨c,p,m,rfl,p0,p9,m0,q⟩:=h
  refine⟨_,@pss_one _ _ _ (@ps_ret _ _ _ _ (@pe_op _ _ _ _ _ _ _ _ op_mod (@pe_op _ _ _ _ _ _ _ _ op_mod (@pe_op _ _ _ _ _ _ _ _ op_pow (@pe_op _ _ _ _ _ _ _ _ op_mod (@pe_op _ _ _ _ _ _ _ _ op_mul ‹20› ‹24›) ‹21›) ‹24›) ‹21›) ‹25›)),?_⟩
  have e1:=Int.emod_nonneg (c * 48271) (show p≠0 by omega)
  have e2:=Int.emod_lt_of_pos (c * 48271) p0
  refine⟨_,rfl,_,_,rfl,rfl,.inr ⟨by decide,by decide⟩,_,rfl,_,_,rfl,rfl,p0,_,_,rfl,rfl,⟨by decide,by decide,pw_nat (b:=0) e1 (by omega)⟩,_,rfl,_,_,rfl,rfl,p0,_,rfl,_,_,rfl,rfl,m0,q⟩
end
structure DiskGood (D:Dk) (ns ms:List Int) (B:Bk):Prop where
 left:D.left=none
 ok:DiskOk D ns
 perm:List.Perm ms ns
 pw:ms.Pairwise (· <= ·)
 gap:gapless ms
 read:∀ bs,lookF D.fs (segN (ms.getLastD 0))=some bs->readL (bs.length+1) bs≠none
 book:bookL D (ms.getLastD 0) ms ⟨[],0,[]⟩=some B
def sp_lqueue (A:Ad):Sp:=fun vs H Q _=>∃ (dk df p:Addr) (kvs:List (Key × V)) (D:Dk) (ns ms:List Int) (B:Bk) (m h t:Int),vs=[.ref dk,.ref p]/\H p=some (.tup [.int m,.int h,.int t])/\1<=m/\m<=2000/\0<=h/\h<=99/\1<=t/\t<=9/\DiskAt A.disk H dk df kvs D/\DiskGood D ns ms B/\
 ∀ L' H',L'.dk=dk->(∀ b o,H b=some o->¬ own dk df kvs b->H' b=some o)->(∀ b,isQu L' b->own dk df kvs b\/H b=none)->QueueW A H' L' (initQ D ms B m h t) false->Q (.ref L'.qu) H'
section
variable {P:Program} {w:World} {K:PySem.W.Frag} {mg:Str->Option Value} {base:Heap} {A:Ad}
theorem sc__law_queue:FnScope ["_law_disk","_law_settings"] ["_law_disk","_law_settings"] (defScope s_lqueue):=‹0›
set_option maxHeartbeats 1000000 in
theorem ok_lqueue {f:Addr} {fd:FuncData} (F:Fun K "_law_queue" "_law_queue" s_lqueue f fd) (c_Queue:‹12› "Queue" A.queue 8 ["self","disk","most","hold","tries"] (sp_q_init A)):‹9› 10 f fd ["_law_disk","_law_settings"] (sp_lqueue A):=by
 refine F.okX sc__law_queue (fun vs H Q E h=>?_) (fun cdv A' outer s H vs Q E hr h=>?_)
 ·obtain⟨dk,df,p,kvs,D,ns,ms,B,m,h,t,rfl,_⟩:=h
  rfl
 ·obtain⟨dk,df,p,kvs,D,ns,ms,B,m,h,t,rfl,gp,m0,m1,h0,h1,t0,t1,hD,dg,qq⟩:=h
  refine⟨_,@pss_one _ _ _ (@ps_ret _ _ _ _ (@pe_mk _ _ _ _ _ _ _ _ _ _ _ _ c_Queue ‹15› passN (@pa_Name _ _ _ _ _ _ ‹20› (@pa_Subscript _ _ _ _ _ _ _ ‹35› (@pa_Subscript _ _ _ _ _ _ _ ‹35› (@pa_Subscript _ _ _ _ _ _ _ ‹35› (@pa_nil _))))) ⋯ ⋯ ⋯ ⋯)),?_⟩
  refine⟨_,rfl,_,rfl,p,_,_,.int m,rfl,rfl,SqT.of gp,atI_pos (by decide) rfl,_,rfl,p,_,_,.int h,rfl,rfl,SqT.of gp,atI_pos (by decide) rfl,_,rfl,p,_,_,.int t,rfl,rfl,SqT.of gp,atI_pos (by decide) rfl,fun qu dx hqu hdx ndx=>?_⟩
  have fr:∀ {c o},H c=some o->upd (upd H dx (.own qu)) qu (.ins A.queue dx []) c=some o:=fun {c o} e=>by
   rw[upd_ne (ne_of_none e hqu),upd_ne (ne_of_none e hdx)]
   exact e
  have hst:setOk (.int m) (.int h) (.int t)=true:=by
   unfold setOk
   simp only[isNum,Bool.and_eq_true,decide_eq_true_eq]
   omega
  have nqu:¬ own dk df kvs qu:=fun z=>by
   obtain⟨o,e⟩:=own_in hD z
   rw[hqu]at e
   cases e
  have back:∀ {c},upd (upd H dx (.own qu)) qu (.ins A.queue dx []) c=none->H c=none:=fun {c} e=>by
   cases e2:H c with
   | none=>rfl
   | some o=>rw[fr e2]at e; cases e
  refine⟨qu,dx,dk,df,kvs,D,ns,ms,B,m,h,t,rfl,upd_same,hD.keep (fun b o e _=>fr e),nqu,hst,dg.left,dg.ok,dg.perm,dg.pw,dg.gap,dg.read,dg.book,fun L' H' eq ed f g hq=>⟨rfl,?_⟩⟩
  subst eq
  refine qq L' H' ed (fun b o e nb=>f b o (fr e) (ne_of_none e hqu) nb) (fun b hb=>?_) hq
  rcases g b hb with z | z | z
  ·rw[z]
   exact .inr hqu
  ·exact .inl z
  ·exact .inr (back z)
end
abbrev s_copy:Stmt:=top 65
theorem setA_new {fs:List (Str × List Int)} {x:Str} {b:List Int} (h:x ∉ fs.map (·.1)):setA (fs++[(x,[])]) x b=fs++[(x,b)]:=by
 unfold setA
 rw[List.map_append]
 congr 1
 ·rw[List.map_congr_left (g:=id) (fun p hp=>?_),List.map_id]
  rw[if_neg (fun z=>h (by rw[<- z]; exact List.mem_map_of_mem hp))]
  rfl
 ·show [if x=x then (x,b) else (x,[])]=_
  rw[if_pos rfl]
def sp_copy (C:Addr):Sp:=fun vs H Q _=>∃ (dk df:Addr) (kvs:List (Key × V)) (D:Dk),vs=[.ref dk]/\DiskAt C H dk df kvs D/\D.fs.length<64/\(∀ x∈D.fs.map (·.1),∃ n,numOk n/\x=segN n)/\(∀ x bs,lookF D.fs x=some bs->bytesOk bs/\bs.length<=100000)/\
 ∀ ms,List.Perm ms (D.fs.map (·.1))->∀ dk2 df2 kvs2 d H',Same H H'->(∀ b,own dk2 df2 kvs2 b->H b=none)->DiskAt C H' dk2 df2 kvs2 ⟨tabF D.fs ms,d,none⟩->Q (.ref dk2) H'
section
variable {P:Program} {w:World} {K:PySem.W.Frag} {mg:Str->Option Value} {base:Heap} {A:Ad}
theorem sc__law_copy:FnScope ["_law_disk","_law_other","_law_name"] ["_law_disk"] (defScope s_copy):=‹0›
set_option maxHeartbeats 1000000 in
theorem ok_copy {f:Addr} {fd:FuncData} (F:Fun K "_law_copy" "_law_copy" s_copy f fd) (T:TxtQ K mg A) (c_Disk:‹12› "Disk" A.disk 3 ["self","steps"] (sp_dinit A.disk A.badNumber)) (mD_names:‹11› A.disk "names" 1 ["self"] (sp_names A.disk)) (mD_make:‹11› A.disk "make" 3 ["self","name"] (sp_make A.disk A.badName A.there A.stopped)) (mD_add:‹4›) (mD_read:‹11› A.disk "read" 4 ["self","name"] (sp_read A.disk A.badName A.missing)):‹9› 5 f fd ["_law_disk"] (sp_copy A.disk):=by
 refine F.okX sc__law_copy (fun vs H Q E h=>?_) (fun cdv A' outer s H vs Q E hr h=>?_)
 ·obtain⟨dk,df,kvs,D,rfl,_⟩:=h
  rfl
 ·obtain⟨dk,df,kvs,D,rfl,hD,hl,hok,hby,q⟩:=h
  refine⟨_,@pss_cons _ _ _ _ _ (@ps_set _ _ (1) _ _ _ _ sc__law_copy.nd (by rfl) (by first | exact Or.inl (by rfl) | exact Or.inr (by rfl)) (@pe_mk _ _ _ _ _ _ _ _ _ _ _ _ c_Disk ‹15› passN (@pa_Constant _ _ _ _ _ _ _ (@pe_non _ _ _) (@pa_nil _)) ⋯ ⋯ ⋯ ⋯) ⋯ ⋯) (@pss_cons _ _ _ _ _ (@ps_for _ _ _ _ _ _ _ _ (ownB own_cx) (by rfl) (@pi_listK _ K _ _ _ (@pe_me0 _ _ _ _ _ _ _ _ _ _ _ _ mD_names T.cl_Disk ‹15› passN ‹20› ⋯) ⋯) (@pg_name _ _ (2) _ sc__law_copy.nd (by rfl) (by first | exact Or.inl (by rfl) | exact Or.inr (by rfl)) ⋯) (@pss_cons _ _ _ _ _ (ps_expr (pe_me mD_make T.cl_Disk ‹15› passN (pv 1) (pa_Name (pv 2) pa_nil))) (@pss_one _ _ _ (ps_expr (pe_me mD_add T.cl_Disk ‹15› passN (pv 1) (pa_Name (pv 2) (pa_Call (pe_me mD_read T.cl_Disk ‹15› passN (pv 0) (pa_Name (pv 2) pa_nil)) pa_nil)))))) ⋯) (@pss_one _ _ _ (@ps_ret _ _ _ _ ‹21›))),?_⟩
  refine fun dk2 dx2 hdk2 hdx2 ne=>⟨dk2,dx2,.non,.none,rfl,upd_same,by simp only[Den],(fun z=>by cases z),fun _ df2 H1 f1 hdf2 hD2=>⟨rfl,?_⟩⟩
  have S1:Same H H1:=fun b o e=>by
   have nb:b≠dk2:=ne_of_none e hdk2
   have nd:b≠dx2:=ne_of_none e hdx2
   exact f1 b o (by rw[upd_ne nb,upd_ne nd]; exact e) nb
  have hdf0:H df2=none:=by
   cases e:H df2 with
   | none=>rfl
   | some o=>
    rw[upd_ne (ne_of_none e hdk2),upd_ne (ne_of_none e hdx2),e]at hdf2
    cases hdf2
  have fr1:∀ b,own dk2 df2 [] b->H b=none:=by
   rintro b (rfl | rfl | hb)
   ·exact hdk2
   ·exact hdf0
   ·simp at hb
  have hD1:=hD.same S1
  obtain⟨dx,h1⟩:=hD1.self
  refine⟨_,rfl,dk,dx,_,rfl,h1,rfl,dk,df,kvs,D,rfl,hD1,hl,fun pl ms perm so H2 S2 g2 hpl=>?_⟩
  have n2:¬ own dk2 df2 [] pl:=fun z=>by
   obtain⟨o,e⟩:=own_in hD2 z
   rw[e]at hpl
   cases hpl
  refine⟨pl,rfl,⟨_,SqL.of g2⟩,?_⟩
  have sq0:SqL K (fun a=>if a=pl then some (.lst (ms.map V.str)) else none) pl (ms.map V.str):=SqL.of (if_pos rfl)
  have lm:(ms.map V.str).length=ms.length:=List.length_map _
  have nd:ms.Nodup:=perm.nodup_iff.mpr hD.kn
  have pl64:=perm.length_eq
  rw[List.length_map]at pl64
  refine for_src0 (H0:=fun a=>if a=pl then some (.lst (ms.map V.str)) else none) (src_list (K:=K) sq0) (fun i σ H'=>H' pl=some (.lst (ms.map V.str))/\Same H H'/\∃ kv2 d z2,(∀ b,own dk2 df2 kv2 b->H b=none)/\¬ own dk2 df2 kv2 pl/\DiskAt A.disk H' dk2 df2 kv2 ⟨tabF D.fs (ms.take i),d,none⟩/\σ = [some (.ref dk),some (.ref dk2),z2]) ?i0 ?kp ?_ ?_
  case i0=>exact⟨g2,S1.trans S2,[],0,none,fr1,n2,hD2.same S2,rfl⟩
  case kp=>
   intro i σ H' h b o e
   by_cases z:b=pl
   ·subst z
    have e:some (HO.lst (ms.map V.str))=some o:=by simpa using e
    rw[<- e]
    exact h.1
   ·have e:none=some o:=by simpa [z] using e
    cases e
  ·rintro i x σ H5 H6 hi ⟨g5,s5,kv2,d,z2,fr2,np2,hD5,rfl⟩ s6 hx
   rw[lm]at hi
   rw[List.getElem?_map,List.getElem?_eq_getElem hi]at hx
   cases hx
   have hmem:ms[i]∈D.fs.map (·.1):=perm.mem_iff.mp (List.getElem_mem hi)
   obtain⟨bs,hbs⟩:=look_some hmem
   obtain⟨n,hn,en⟩:=hok _ hmem
   have hnew:ms[i] ∉ (tabF D.fs (ms.take i)).map (·.1):=by
    unfold tabF
    rw[List.map_map]
    intro h2
    rw[List.mem_map]at h2
    obtain⟨y,hy,e⟩:=h2
    have e:y=ms[i]:=e
    subst e
    have nd':=nd
    rw[<- List.take_append_drop i ms,List.nodup_append]at nd'
    exact nd'.2.2 _ hy _ (by rw[List.drop_eq_getElem_cons hi]; exact List.mem_cons_self) rfl
   have hno:lookF (tabF D.fs (ms.take i)) (segN n)=none:=by
    rw[<- en]
    unfold lookF
    rw[Option.map_eq_none_iff,List.find?_eq_none]
    intro p hp z
    exact hnew (by rw[<- of_decide_eq_true z]; exact List.mem_map_of_mem hp)
   have hD6:=hD5.same s6
   obtain⟨dx6,h6⟩:=hD6.self
   have tl:(tabF D.fs (ms.take i)).length<=64:=by
    unfold tabF
    rw[List.length_map,List.length_take]
    omega
   rw[en]
   refine⟨_,rfl,dk2,dx6,_,rfl,h6,rfl,_,rfl,nil_go (use_make hD6 rfl hn (by show (tabF D.fs (ms.take i)).length<1000; omega) hno fun kv3 H7 f7 w7 hD7=>?_)⟩
   have S06:=s5.trans s6
   have S07:Same H H7:=fun b o e=>f7 b o (S06 b o e) (fun z=>by rw[fr2 b z]at e; cases e)
   have fr3:∀ b,own dk2 df2 kv3 b->H b=none:=fun b hb=>(w7 b hb).elim (fr2 b) (fun z=>S06.free z)
   have g7:=f7 _ _ (s6 _ _ g5) np2
   have np3:¬ own dk2 df2 kv3 pl:=fun z=>(w7 _ z).elim np2 (fun y=>by rw[s6 _ _ g5]at y; cases y)
   obtain⟨dx7,h7⟩:=hD7.self
   have hDo:=hD.same S07
   obtain⟨dxo,ho⟩:=hDo.self
   obtain⟨by1,by2⟩:=hby _ _ hbs
   refine⟨_,rfl,dk2,dx7,_,rfl,h7,rfl,_,rfl,_,rfl,dk,dxo,_,rfl,ho,rfl,_,rfl,nil_go (use_read hDo hn (by rw[<- en]; exact hbs) fun pr H8 S8 g8=>?_)⟩
   have hD8:=hD7.same S8
   have hb8:lookF (mkN ⟨tabF D.fs (ms.take i),d,none⟩ (segN n)).fs (segN n)=some []:=by
    show ((tabF D.fs (ms.take i)++[((segN n,[]):Str × List Int)]).find? fun p:Str × List Int=>decide (p.1=segN n)).map (fun p:Str × List Int=>p.2)=some []
    have h0:(tabF D.fs (ms.take i)).find? (fun p=>decide (p.1=segN n))=none:=Option.map_eq_none_iff.mp hno
    rw[List.find?_append,h0,List.find?_cons,decide_eq_true (show segN n=segN n from rfl)]
    rfl
   have hz8:∀ y b,lookF (mkN ⟨tabF D.fs (ms.take i),d,none⟩ (segN n)).fs y=some b->b.length<=100000:=fun y b e=>by
    have e:((tabF D.fs (ms.take i)++[((segN n,[]):Str × List Int)]).find? fun p:Str × List Int=>decide (p.1=y)).map (fun p:Str × List Int=>p.2)=some b:=e
    rw[Option.map_eq_some_iff]at e
    obtain⟨p,hp,rfl⟩:=e
    have hm:=List.mem_of_find?_eq_some hp
    rw[List.mem_append]at hm
    rcases hm with z | z
    ·unfold tabF at z
     rw[List.mem_map]at z
     obtain⟨u,_,rfl⟩:=z
     show ((lookF D.fs u).getD []).length<=100000
     cases eu:lookF D.fs u with
     | none=>exact Nat.zero_le _
     | some b=>exact(hby u b eu).2
    ·rw[List.mem_singleton.mp z]
     exact Nat.zero_le _
   refine nil_go (use_add hD8 rfl hn hb8 hz8 g8 by1 by2 fun H9 f9 hD9=>?_)
   refine⟨f9 _ _ (S8 _ _ g7) np3,fun b o e=>f9 b o (S8 _ _ (S07 b o e)) (fun z=>by rw[fr3 b z]at e; cases e),kv3,d+1+(bs.length:Int),_,fr3,np3,?_,rfl⟩
   have et:tabF D.fs (ms.take (i+1))=tabF D.fs (ms.take i)++[(segN n,bs)]:=by
    unfold tabF
    rw[List.take_add_one,List.getElem?_eq_getElem hi,List.map_append]
    show _++[(ms[i],(lookF D.fs ms[i]).getD [])]=_
    rw[hbs,en]
    rfl
   rw[et]
   have e9:setN (mkN ⟨tabF D.fs (ms.take i),d,none⟩ (segN n)) (segN n) ([]++bs) bs.length=⟨tabF D.fs (ms.take i)++[(segN n,bs)],d+1+(bs.length:Int),none⟩:=by
    show (⟨setA (tabF D.fs (ms.take i)++[(segN n,[])]) (segN n) bs,d+1+(bs.length:Int),none⟩:Dk)=_
    rw[setA_new (by rw[<- en]; exact hnew)]
   rw[e9]at hD9
   exact hD9
  ·rintro σ H5 ⟨g5,s5,kv2,d,z2,fr2,np2,hD5,rfl⟩
   rw[lm,List.take_length]at hD5
   exact⟨_,rfl,q ms perm dk2 df2 kv2 d H5 s5 fr2 hD5⟩
end
end Qh
end
section
namespace Qh
open PySem L2
theorem rowsB_cons (r:Rw) (rs:List Rw):rowsB (r::rs)=rowB r.1 r.2.1 r.2.2++rowsB rs:=by
 unfold rowsB
 rw[List.map_cons,List.flatten_cons]
theorem rowsB_app (a b:List Rw):rowsB (a++b)=rowsB a++rowsB b:=by
 unfold rowsB
 rw[List.map_append,List.flatten_append]
theorem rowsB_many:∀ rs:List Rw,rs.length<=(rowsB rs).length
 | []=>Nat.le_refl _
 | r::rs=>by
  rw[rowsB_cons,List.length_append,rowB_len,List.length_cons]
  have:=rowsB_many rs
  omega
theorem read_rowsB:∀ (rs:List Rw) (f:Nat),(∀ r∈rs,isRowD (rowR r)=true)->rs.length<f->readL f (rowsB rs)=some (rs.map rowR,0)
 | rs,0,_,h=>absurd h (Nat.not_lt_zero _)
 | [],f+1,_,_=>rfl
 | r::rs,f+1,h,hf=>by
  rw[rowsB_cons,readL_row (h r List.mem_cons_self),read_rowsB rs f (fun x hx=>h x (List.mem_cons_of_mem _ hx)) (by rw[List.length_cons]at hf; omega)]
  rfl
structure GoodR (rs:List Rw):Prop where
 ok:∀ r∈rs,isRowD (rowR r)=true
 head:∃ n r,rs=(("from",n,[]):Rw)::r
 cut:cutParts rs=rs
theorem GoodR.read {rs:List Rw} (h:GoodR rs):readL ((rowsB rs).length+1) (rowsB rs)=some (rs.map rowR,0):=read_rowsB rs _ h.ok (by have:=rowsB_many rs; omega)
theorem GoodR.seg {rs:List Rw} (h:GoodR rs) (l:Bool):segR (rowsB rs) l=some rs:=by
 obtain⟨n,r,e⟩:=h.head
 unfold segR
 rw[h.read]
 dsimp only
 rw[un_rows]
 unfold segRows
 rw[h.read]
 dsimp only
 rw[h.cut,if_neg (fun z=>by have:=z.2; omega),if_neg (fun z=>by rw[e]at z; exact absurd z.2 (by simp)),if_neg (fun z=>by rw[e]at z; exact z.2 rfl)]
theorem GoodR.kept {rs:List Rw} (h:GoodR rs):keptRows (rowsB rs)=rs:=by
 unfold keptRows
 rw[h.read]
 dsimp only
 rw[un_rows,h.cut]
theorem rowsB_size (rs:List Rw):keptSize rs=(rowsB rs).length:=by
 unfold keptSize
 induction rs with
 | nil=>rfl
 | cons r rs ih=>rw[List.map_cons,List.sum_cons,ih,rowsB_cons,List.length_append,rowB_len]
theorem cut_snoc (rs:List Rw) (r:Rw) (h:r.1 ≠ "part"):cutParts (rs++[r])=rs++[r]:=by
 unfold cutParts
 rw[List.reverse_append]
 show (List.dropWhile _ (r::rs.reverse)).reverse=_
 rw[List.dropWhile_cons,if_neg (by rw[decide_eq_true_eq]; exact h),List.reverse_cons,List.reverse_reverse]
def foldR (s:Int):Bk->List (List Rw)->Option Bk
 | B,[]=>some B
 | B,rs::R=>match foldB s B rs with
  | none=>none
  | some B'=>foldR (s+1) B' R
theorem foldB_app (s:Int) (b:List Rw):∀ (a:List Rw) (B B1:Bk),foldB s B a=some B1->foldB s B (a++b)=foldB s B1 b
 | [],B,B1,h=>by
  cases (show some B=some B1 from h)
  rfl
 | r::a,B,B1,h=>by
  have h:(match enterF B r.1 r.2.1 r.2.2 s with | none=>none | some B'=>foldB s B' a)=some B1:=h
  show (match enterF B r.1 r.2.1 r.2.2 s with | none=>none | some B'=>foldB s B' (a++b))=_
  cases e:enterF B r.1 r.2.1 r.2.2 s with
  | none=>rw[e]at h; cases h
  | some B'=>
   rw[e]at h
   exact foldB_app s b a B' B1 h
theorem foldR_app:∀ (R:List (List Rw)) (s:Int) (B B1:Bk) (x:List Rw),foldR s B R=some B1->foldR s B (R++[x])=foldB (s+(R.length:Int)) B1 x
 | [],s,B,B1,x,h=>by
  cases (show some B=some B1 from h)
  show (match foldB s B x with | none=>none | some B'=>some B')=_
  rw[show s+((([]:List (List Rw)).length:Nat):Int)=s by simp]
  cases foldB s B x <;> rfl
 | rs::R,s,B,B1,x,h=>by
  have h:(match foldB s B rs with | none=>none | some B'=>foldR (s+1) B' R)=some B1:=h
  show (match foldB s B rs with | none=>none | some B'=>foldR (s+1) B' (R++[x]))=_
  cases e:foldB s B rs with
  | none=>rw[e]at h; cases h
  | some B'=>
   rw[e]at h
   dsimp only
   rw[foldR_app R (s+1) B' B1 x h,List.length_cons,show s+1+(R.length:Int)=s+((R.length+1:Nat):Int) by omega]
theorem foldR_init:∀ (R:List (List Rw)) (s:Int) (B B1:Bk) (x:List Rw),foldR s B (R++[x])=some B1->∃ B0,foldR s B R=some B0/\foldB (s+(R.length:Int)) B0 x=some B1
 | [],s,B,B1,x,h=>by
  refine⟨B,rfl,?_⟩
  have h:(match foldB s B x with | none=>none | some B'=>some B')=some B1:=h
  rw[show s+((([]:List (List Rw)).length:Nat):Int)=s by simp]
  cases e:foldB s B x with
  | none=>rw[e]at h; cases h
  | some B'=>rw[e]at h; exact h
 | rs::R,s,B,B1,x,h=>by
  have h:(match foldB s B rs with | none=>none | some B'=>foldR (s+1) B' (R++[x]))=some B1:=h
  cases e:foldB s B rs with
  | none=>rw[e]at h; cases h
  | some B'=>
   rw[e]at h
   obtain⟨B0,h1,h2⟩:=foldR_init R (s+1) B' B1 x h
   refine⟨B0,?_,?_⟩
   ·show (match foldB s B rs with | none=>none | some B'=>foldR (s+1) B' R)=_
    rw[e]
    exact h1
   ·rw[List.length_cons,show s+((R.length+1:Nat):Int)=s+1+(R.length:Int) by omega]
    exact h2
structure Rs (q:Qs) (f:Int) (Ri:List (List Rw)) (rl:List Rw) (z:Nat):Prop where
 left:q.D.left=none
 f0:0<=f
 last:q.last=f+(Ri.length:Int)
 keys:q.D.fs.map (·.1)=(List.range (Ri.length+1)).map fun(i:Nat)=>segN (f+(i:Int))
 files:∀ (i:Nat) rs,(Ri++[rl])[i]? = some rs->lookF q.D.fs (segN (f+(i:Int)))=some (rowsB rs)
 good:∀ rs∈Ri++[rl],GoodR rs
 fold:foldR f ⟨[],0,[]⟩ (Ri++[rl])=some q.B
 parts:q.B.parts=[]
 up:0<=q.B.up
 size:((Ri++[rl]).map fun rs=>(rowsB rs).length).sum<=z
theorem segN_inj {n m:Int} (hn:numOk n) (hm:numOk m) (e:segN n=segN m):n=m:=by
 have h1:=PySem.W.KIN.num_reads hn.1 (Int.lt_of_lt_of_le hn.2 (by decide))
 have h2:=PySem.W.KIN.num_reads hm.1 (Int.lt_of_lt_of_le hm.2 (by decide))
 have e':Str.ofString (toString n)=Str.ofString (toString m):=by rw[<- seg_slice n,<- seg_slice m,e]
 rw[e']at h1
 exact Option.some.inj (h1.symm.trans h2)
theorem lookF_no {fs:List (Str × List Int)} {n:Str} (h:n ∉ fs.map (·.1)):lookF fs n=none:=by
 unfold lookF
 rw[Option.map_eq_none_iff,List.find?_eq_none]
 intro p hp z
 exact h (by rw[<- of_decide_eq_true z]; exact List.mem_map_of_mem hp)
theorem lookF_key {fs:List (Str × List Int)} {n:Str} {bs:List Int} (h:lookF fs n=some bs):n∈fs.map (·.1):=by
 by_cases z:n∈fs.map (·.1)
 ·exact z
 ·rw[lookF_no z]at h
  cases h
theorem le_sum:∀ {l:List Nat} {x:Nat},x∈l->x<=l.sum
 | [],x,h=>by cases h
 | y::l,x,h=>by
  rw[List.sum_cons]
  rcases List.mem_cons.mp h with z | z
  ·omega
  ·have:=le_sum z
   omega
section
variable {q:Qs} {f:Int} {Ri:List (List Rw)} {rl:List Rw} {z:Nat}
theorem Rs.look (h:Rs q f Ri rl z) {x:Str} {bs:List Int} (e:lookF q.D.fs x=some bs):∃ (i:Nat) (rs:List Rw),i<=Ri.length/\x=segN (f+(i:Int))/\(Ri++[rl])[i]? = some rs/\bs=rowsB rs:=by
 have hk:=lookF_key e
 rw[h.keys,List.mem_map]at hk
 obtain⟨i,hi,rfl⟩:=hk
 rw[List.mem_range]at hi
 have hl:i<(Ri++[rl]).length:=by rw[List.length_append,List.length_singleton]; exact hi
 have e2:=h.files i _ (List.getElem?_eq_getElem hl)
 rw[e]at e2
 exact⟨i,_,by omega,rfl,List.getElem?_eq_getElem hl,Option.some.inj e2⟩
theorem Rs.len (h:Rs q f Ri rl z) {x:Str} {bs:List Int} (e:lookF q.D.fs x=some bs):bs.length<=z:=by
 obtain⟨i,rs,_,_,hi,rfl⟩:=h.look e
 exact Nat.le_trans (le_sum (List.mem_map_of_mem (f:=fun rs=>(rowsB rs).length) (List.mem_of_getElem? hi))) h.size
theorem Rs.here (h:Rs q f Ri rl z):lookF q.D.fs (segN q.last)=some (rowsB rl):=by
 rw[h.last]
 exact h.files Ri.length rl (by rw[List.getElem?_append_right (Nat.le_refl _),Nat.sub_self]; rfl)
theorem Rs.fresh (h:Rs q f Ri rl z) (hb:f+(Ri.length:Int)<=100000):segN (q.last+1) ∉ q.D.fs.map (·.1):=by
 have hf:=h.f0
 rw[h.keys,List.mem_map]
 rintro ⟨i,hi,e⟩
 rw[List.mem_range]at hi
 rw[h.last]at e
 have:=segN_inj ⟨by omega,by omega⟩ ⟨by omega,by omega⟩ e
 omega
theorem Rs.wok (h:Rs q f Ri rl z) {k:Nat} (hb:f+(Ri.length:Int)<=100000) (hn:Ri.length<800) (hz:z<=100000) (he:q.B.es.length+k<900):WOk q k:=by
 have hf:=h.f0
 refine⟨h.left,by rw[h.last]; exact⟨by omega,by omega⟩,by rw[h.last]; exact⟨by omega,by omega⟩,⟨_,h.here⟩,lookF_no (h.fresh hb),fun x bs e=>Nat.le_trans (h.len e) hz,?_,h.up,by rw[h.parts]; exact he⟩
 have:=congrArg List.length h.keys
 rw[List.length_map,List.length_map,List.length_range]at this
 omega
theorem Rs.begin (h:Rs q f Ri rl z) (hb:f+(Ri.length:Int)<=100000) (hu:q.B.up<=999999):Rs (beginQ q) f (Ri++[rl]) [("from",q.B.up,[])] (z+7):=by
 have hfr:=h.fresh hb
 have hno:=lookF_no hfr
 have hlen:(Ri++[rl]).length=Ri.length+1:=by rw[List.length_append]; rfl
 refine⟨rfl,h.f0,?_,?_,fun i rs e=>?_,fun rs hr=>?_,?_,h.parts,h.up,?_⟩
 ·show q.last+1=_
  rw[h.last,hlen]
  omega
 ·show (setA (q.D.fs++[(segN (q.last+1),[])]) _ _).map (·.1)=_
  rw[setA_keys,List.map_append,h.keys,hlen,List.range_succ (n:=Ri.length+1),List.map_append,h.last]
  show _++[segN (f+(Ri.length:Int)+1)]=_++[segN (f+((Ri.length+1:Nat):Int))]
  rw[show f+(Ri.length:Int)+1=f+((Ri.length+1:Nat):Int) by omega]
 ·rw[begin_look q hno]
  by_cases hi:i<(Ri++[rl]).length
  ·rw[List.getElem?_append_left hi]at e
   have e2:=h.files i rs e
   rw[if_neg (fun y=>by rw[y,hno]at e2; cases e2)]
   exact e2
  ·rw[List.getElem?_append_right (by omega)]at e
   have hi2:i - (Ri++[rl]).length=0:=by
    have:=(List.getElem?_eq_some_iff.mp e).1
    rw[List.length_singleton]at this
    omega
   rw[hi2]at e
   cases e
   rw[if_pos (by rw[h.last]; congr 1; omega)]
   rw[rowsB_cons]
   show some (rowB "from" q.B.up [])=some (rowB "from" q.B.up []++[])
   rw[List.append_nil]
 ·rcases List.mem_append.mp hr with y | y
  ·exact h.good rs y
  ·rw[List.mem_singleton.mp y]
   refine⟨fun r hr'=>?_,⟨_,[],rfl⟩,cut_snoc [] _ (show ("from" : Str) ≠ "part" by decide)⟩
   rw[List.mem_singleton.mp hr']
   exact from_ok h.up hu
 ·rw[foldR_app _ _ _ _ _ h.fold]
  show (match enterF q.B "from" q.B.up [] _ with | none=>none | some B'=>some B')=_
  have:enterF q.B "from" q.B.up [] (f+((Ri++[rl]).length:Int))=some q.B:=by
   unfold enterF
   rw[if_neg (by decide),if_neg (by decide),if_neg (fun y=>y h.parts),if_neg (by decide),if_pos rfl]
   unfold maxI
   rw[if_neg (by omega)]
  rw[this]
  rfl
 ·rw[List.map_append,List.sum_append]
  have:=h.size
  have e7:([[(("from",q.B.up,[]):Rw)]].map fun rs=>(rowsB rs).length).sum=7:=by
   show (rowsB [("from",q.B.up,[])]).length+0=7
   rw[rowsB_cons,List.length_append,rowB_len]
   rfl
  omega
theorem Rs.add (h:Rs q f Ri rl z) (hb:f+(Ri.length:Int)<=100000) {rs:List Rw} {B':Bk} (ok:∀ r∈rs,isRowD (rowR r)=true) (hc:∃ (a:List Rw) (r:Rw),rs=a++[r]/\r.1 ≠ "part") (hf:foldB q.last q.B rs=some B') (hp:B'.parts=[]) (hu:0<=B'.up):Rs (addQ q (rowsB rs) B') f Ri (rl++rs) (z+(rowsB rs).length):=by
 have hl:=h.last
 have hf0:=h.f0
 have hlast:lastF q=rowsB rl:=by unfold lastF; rw[h.here]; rfl
 refine⟨rfl,h.f0,h.last,?_,fun i r e=>?_,fun r hr=>?_,?_,hp,hu,?_⟩
 ·show (setA q.D.fs _ _).map (·.1)=_
  rw[setA_keys]
  exact h.keys
 ·show lookF (setA q.D.fs (segN q.last) (lastF q++rowsB rs)) _=_
  rw[look_set,h.here,hlast]
  by_cases hi:i<Ri.length
  ·rw[List.getElem?_append_left hi]at e
   rw[if_neg (fun y=>by
    rw[hl]at y
    have:=segN_inj ⟨by omega,by omega⟩ ⟨by omega,by omega⟩ y
    omega)]
   exact h.files i r (by rw[List.getElem?_append_left hi]; exact e)
  ·rw[List.getElem?_append_right (by omega)]at e
   have hi2:i - Ri.length=0:=by
    have:=(List.getElem?_eq_some_iff.mp e).1
    rw[List.length_singleton]at this
    omega
   rw[hi2]at e
   cases e
   rw[if_pos (by rw[hl]; congr 1; omega),rowsB_app]
   rfl
 ·rcases List.mem_append.mp hr with y | y
  ·exact h.good r (List.mem_append_left _ y)
  ·rw[List.mem_singleton.mp y]
   have g:=h.good rl (List.mem_append_right _ (List.mem_singleton.mpr rfl))
   obtain⟨n,r0,e0⟩:=g.head
   obtain⟨a,rr,ea,hn⟩:=hc
   refine⟨fun r hr'=>(List.mem_append.mp hr').elim (g.ok r) (ok r),⟨n,r0++rs,by rw[e0]; rfl⟩,?_⟩
   rw[ea,<- List.append_assoc]
   exact cut_snoc _ _ hn
 ·obtain⟨B0,h1,h2⟩:=foldR_init _ _ _ _ _ h.fold
  rw[foldR_app _ _ _ _ _ h1,foldB_app _ _ _ _ _ h2,<- hl]
  exact hf
 ·rw[List.map_append,List.sum_append]
  have:=h.size
  rw[List.map_append,List.sum_append]at this
  have e1:([rl].map fun rs=>(rowsB rs).length).sum=(rowsB rl).length:=by simp
  have e2:([rl++rs].map fun rs=>(rowsB rs).length).sum=(rowsB rl).length+(rowsB rs).length:=by simp [rowsB_app]
  omega
def segsL (f:Int) (n:Nat):List Int:=(List.range n).map fun(i:Nat)=>f+(i:Int)
theorem segsL_cons (f:Int) (n:Nat):segsL f (n+1)=f::segsL (f+1) n:=by
 unfold segsL
 rw[List.range_succ_eq_map,List.map_cons,List.map_map]
 congr 1
 ·simp
 ·apply List.map_congr_left
  intro x _
  show f+((x+1:Nat):Int)=f+1+(x:Int)
  omega
theorem segsL_sorted:∀ (f:Int) (n:Nat),(segsL f n).Pairwise (· <= ·)
 | f,0=>List.Pairwise.nil
 | f,n+1=>by
  rw[segsL_cons]
  refine List.Pairwise.cons (fun x hx=>?_) (segsL_sorted (f+1) n)
  unfold segsL at hx
  rw[List.mem_map]at hx
  obtain⟨i,_,rfl⟩:=hx
  omega
theorem segsL_last (f:Int) (n:Nat):(segsL f (n+1)).getLastD 0=f+(n:Int):=by
 unfold segsL
 rw[List.range_succ,List.map_append]
 show (List.map _ (List.range n)++[f+(n:Int)]).getLastD 0=_
 rw[List.getLastD_concat]
theorem book_fold {D:Dk} {last:Int}:∀ (R:List (List Rw)) (s:Int) (B:Bk),(∀ (i:Nat) rs,R[i]? = some rs->lookF D.fs (segN (s+(i:Int)))=some (rowsB rs))->(∀ rs∈R,GoodR rs)->bookL D last (segsL s R.length) B=foldR s B R
 | [],s,B,_,_=>rfl
 | rs::R,s,B,hf,hg=>by
  rw[List.length_cons,segsL_cons,bookL_cons]
  have e:=hf 0 rs rfl
  rw[show s+((0:Nat):Int)=s by simp]at e
  rw[e]
  dsimp only
  rw[(hg rs List.mem_cons_self).seg]
  dsimp only
  show _=(match foldB s B rs with | none=>none | some B'=>foldR (s+1) B' R)
  cases foldB s B rs with
  | none=>rfl
  | some B'=>
   exact book_fold R (s+1) B' (fun i r e=>by
    have:=hf (i+1) r e
    rw[show s+((i+1:Nat):Int)=s+1+(i:Int) by omega]at this
    exact this) (fun r hr=>hg r (List.mem_cons_of_mem _ hr))
theorem look_tab (fs:List (Str × List Int)) {ms:List Str} {x:Str} {bs:List Int} (hm:x∈ms) (e:lookF fs x=some bs):lookF (tabF fs ms) x=some bs:=by
 unfold tabF lookF
 induction ms with
 | nil=>cases hm
 | cons m ms ih=>
  rw[List.map_cons,List.find?_cons]
  by_cases z:m=x
  ·subst z
   dsimp only
   rw[decide_eq_true rfl]
   unfold lookF at e
   rw[e]
   rfl
  ·rw[decide_eq_false z]
   exact ih ((List.mem_cons.mp hm).elim (fun y=>absurd y.symm z) id)
theorem Rs.copy (h:Rs q f Ri rl z) (hb:f+(Ri.length:Int)<100000) (hn:Ri.length<63) (hz:z<=5600) {ms:List Str} (hp:List.Perm ms (q.D.fs.map (·.1))) (d:Int) (hby:∀ rs∈Ri++[rl],∀ b∈rowsB rs,0<=b/\b<=255) :
  ∃ ns,DiskGood ⟨tabF q.D.fs ms,d,none⟩ ns (segsL f (Ri.length+1)) q.B/\∀ m hh t,initQ ⟨tabF q.D.fs ms,d,none⟩ (segsL f (Ri.length+1)) q.B m hh t=⟨⟨tabF q.D.fs ms,d,none⟩,q.B,m,hh,t,f,f+(Ri.length:Int),0,[]⟩:=by
 have hf0:=h.f0
 have ek:(List.range (Ri.length+1)).map (fun(i:Nat)=>segN (f+(i:Int)))=(segsL f (Ri.length+1)).map segN:=by
  unfold segsL
  rw[List.map_map]
  rfl
 have hp2:=hp
 rw[h.keys,ek]at hp2
 obtain⟨ns,pn,rfl⟩:=perm_pre segN hp2
 have mem:∀ {x:Str},x∈q.D.fs.map (·.1)->x∈ns.map segN:=fun hx=>hp.mem_iff.mpr hx
 have lk:∀ {x:Str} {bs:List Int},lookF q.D.fs x=some bs->lookF (tabF q.D.fs (ns.map segN)) x=some bs:=fun e=>look_tab _ (mem (lookF_key e)) e
 have tk:(tabF q.D.fs (ns.map segN)).map (·.1)=ns.map segN:=by
  unfold tabF
  rw[List.map_map]
  show (ns.map segN).map id=_
  rw[List.map_id]
 have back:∀ {x:Str} {bs:List Int},lookF (tabF q.D.fs (ns.map segN)) x=some bs->lookF q.D.fs x=some bs:=fun {x bs} e=>by
  have hk:=lookF_key e
  rw[tk]at hk
  obtain⟨bs',e'⟩:=lookF_in (hp.mem_iff.mp hk)
  rw[lk e']at e
  rw[e',Option.some.inj e]
 have hl:(segsL f (Ri.length+1)).length=Ri.length+1:=by unfold segsL; rw[List.length_map,List.length_range]
 have lastE:=segsL_last f Ri.length
 have here:lookF (tabF q.D.fs (ns.map segN)) (segN (f+(Ri.length:Int)))=some (rowsB rl):=by
  have:=h.here
  rw[h.last]at this
  exact lk this
 have gl:=h.good rl (List.mem_append_right _ (List.mem_singleton.mpr rfl))
 have ns_in:∀ n∈ns,numOk n:=fun n hn'=>by
  have:=pn.mem_iff.mp hn'
  unfold segsL at this
  rw[List.mem_map]at this
  obtain⟨i,hi,rfl⟩:=this
  rw[List.mem_range]at hi
  exact⟨by omega,by omega⟩
 refine⟨ns,⟨rfl,⟨tk,ns_in,by rw[pn.length_eq,hl]; omega,fun x bs e=>?_,?_⟩,pn.symm,segsL_sorted _ _,.inr ?_,fun bs e=>?_,?_⟩,fun m hh t=>?_⟩
 ·obtain⟨i,rs,_,_,hi,rfl⟩:=h.look (back e)
  exact⟨hby rs (List.mem_of_getElem? hi),Nat.le_trans (h.len (back e)) (by omega)⟩
 ·rw[(pn.map _).sum_nat]
  have:(segsL f (Ri.length+1)).map (sizeS ⟨tabF q.D.fs (ns.map segN),d,none⟩)=(Ri++[rl]).map fun rs=>(rowsB rs).length:=by
   unfold segsL
   rw[List.map_map]
   apply List.ext_getElem?
   intro i
   rw[List.getElem?_map,List.getElem?_map]
   by_cases hi:i<Ri.length+1
   ·have hi2:i<(Ri++[rl]).length:=by rw[List.length_append,List.length_singleton]; exact hi
    rw[List.getElem?_range hi,List.getElem?_eq_getElem hi2]
    have:=lk (h.files i _ (List.getElem?_eq_getElem hi2))
    show some (((lookF (tabF q.D.fs (ns.map segN)) (segN (f+(i:Int)))).getD []).length)=_
    rw[this]
    rfl
   ·rw[List.getElem?_eq_none (by rw[List.length_range]; omega),List.getElem?_eq_none (by rw[List.length_append,List.length_singleton]; omega)]
    rfl
  rw[this]
  exact Nat.le_trans h.size hz
 ·rw[lastE,hl,segsL_cons]
  show f+(Ri.length:Int) - f+1=_
  omega
 ·rw[lastE]at e
  rw[here]at e
  cases e
  rw[gl.read]
  exact fun y=>by cases y
 ·have:=book_fold (D:=⟨tabF q.D.fs (ns.map segN),d,none⟩) (last:=(segsL f (Ri.length+1)).getLastD 0) (Ri++[rl]) f ⟨[],0,[]⟩ (fun i rs e=>lk (h.files i rs e)) h.good
  rw[List.length_append,List.length_singleton]at this
  rw[this]
  exact h.fold
 ·obtain⟨n,r,er⟩:=gl.head
  have ne:segsL f (Ri.length+1)≠[]:=fun y=>by rw[y]at hl; cases hl
  have hg:goodN ⟨tabF q.D.fs (ns.map segN),d,none⟩ (segsL f (Ri.length+1))=(⟨tabF q.D.fs (ns.map segN),d,none⟩,segsL f (Ri.length+1)):=by
   unfold goodN
   rw[if_neg ne]
   unfold goodB
   rw[lastE]
   dsimp only
   rw[here,Option.getD_some,gl.kept,if_neg (fun y=>by rw[er]at y; cases y.1),rowsB_size,if_neg (Nat.lt_irrefl _),if_neg (fun y=>by rw[er]at y; cases y)]
  unfold initQ
  rw[hg]
  dsimp only
  rw[lastE,segsL_cons]
  rfl
end
end Qh
end
section
namespace Qh
open PySem L2
def mkEs (n:Int):List (List Int × Int)->List (Int × Ent)
 | []=>[]
 | p::r=>(n,(p.1,0,p.2))::mkEs (n+1) r
theorem mkEs_app:∀ (n:Int) (a b:List (List Int × Int)),mkEs n (a++b)=mkEs n a++mkEs (n+(a.length:Int)) b
 | n,[],b=>by
  show mkEs n b=mkEs (n+((0:Nat):Int)) b
  rw[show n+((0:Nat):Int)=n by omega]
 | n,p::a,b=>by
  show _::mkEs (n+1) (a++b)=_::(mkEs (n+1) a++mkEs (n+((a.length+1:Nat):Int)) b)
  rw[mkEs_app (n+1) a b,show n+1+(a.length:Int)=n+((a.length+1:Nat):Int) by omega]
theorem nums_cons (n:Int) (k:Nat):numsL n (k+1)=n::numsL (n+1) k:=by
 unfold numsL
 rw[List.range_succ_eq_map,List.map_cons,List.map_map]
 congr 1
 ·simp
 ·apply List.map_congr_left
  intro x _
  show n+((x+1:Nat):Int)=n+1+(x:Int)
  omega
theorem mkEs_keys:∀ (n:Int) (a:List (List Int × Int)),(mkEs n a).map (·.1)=numsL n a.length
 | n,[]=>rfl
 | n,p::a=>by
  show n::(mkEs (n+1) a).map (·.1)=numsL n (a.length+1)
  rw[mkEs_keys (n+1) a,nums_cons]
theorem mkEs_len (n:Int) (a:List (List Int × Int)):(mkEs n a).length=a.length:=by
 have:=congrArg List.length (mkEs_keys n a)
 unfold numsL at this
 rw[List.length_map,List.length_map,List.length_range]at this
 exact this
theorem mem_nums {n x:Int} {k:Nat}:x∈numsL n k ↔ n<=x/\x<n+(k:Int):=by
 unfold numsL
 rw[List.mem_map]
 constructor
 ·rintro ⟨i,hi,rfl⟩
  rw[List.mem_range]at hi
  omega
 ·rintro ⟨h1,h2⟩
  exact⟨(x - n).toNat,List.mem_range.mpr (by omega),by omega⟩
theorem nums_sorted:∀ (n:Int) (k:Nat),(numsL n k).Pairwise (· <= ·)
 | n,0=>List.Pairwise.nil
 | n,k+1=>by
  rw[nums_cons]
  refine List.Pairwise.cons (fun x hx=>?_) (nums_sorted (n+1) k)
  have:=(mem_nums.mp hx).1
  omega
def partsL (up:Int):List (List Int)->List (Int × List Int)
 | []=>[]
 | b::r=>(up,b)::partsL (up+1) r
theorem partsR_cons (up:Int) (b:List Int) (bss:List (List Int)):partsR up (b::bss)=(("part",up,b):Rw)::partsR (up+1) bss:=by
 unfold partsR
 rw[List.length_cons,List.range_succ_eq_map,List.map_cons,List.map_map]
 congr 1
 ·simp
 ·apply List.map_congr_left
  intro x _
  show (("part",up+((x+1:Nat):Int),(b::bss).getD (x+1) []):Rw)=(("part",up+1+(x:Int),bss.getD x []):Rw)
  rw[show up+((x+1:Nat):Int)=up+1+(x:Int) by omega]
  rfl
theorem partsL_keys:∀ (up:Int) (bss:List (List Int)),(partsL up bss).map (·.1)=numsL up bss.length
 | up,[]=>rfl
 | up,b::bss=>by
  show up::(partsL (up+1) bss).map (·.1)=numsL up (bss.length+1)
  rw[partsL_keys (up+1) bss,nums_cons]
theorem fold_parts (seg:Int) (es:List (Int × Ent)) (u0:Int) (rest:List Rw):∀ (up:Int) (bss:List (List Int)) (ps:List (Int × List Int)),foldB seg ⟨es,u0,ps⟩ (partsR up bss++rest)=foldB seg ⟨es,u0,ps++partsL up bss⟩ rest
 | up,[],ps=>by
  show foldB seg ⟨es,u0,ps⟩ rest=foldB seg ⟨es,u0,ps++[]⟩ rest
  rw[List.append_nil]
 | up,b::bss,ps=>by
  rw[partsR_cons]
  show foldB seg ⟨es,u0,ps++[(up,b)]⟩ (partsR (up+1) bss++rest)=foldB seg ⟨es,u0,ps++(up,b)::partsL (up+1) bss⟩ rest
  rw[fold_parts seg es u0 rest (up+1) bss,List.append_assoc]
  rfl
def cutB (s:Int) (B:Bk):Bk:=⟨B.es.filter (fun p=>decide (s<=p.2.2.2)),B.up,B.parts⟩
theorem cutB_all {s:Int} {B:Bk} (h:∀ p∈B.es,s<=p.2.2.2):cutB s B=B:=by
 unfold cutB
 rw[List.filter_eq_self.mpr (fun p hp=>decide_eq_true (h p hp))]
theorem cutB_none {s:Int} {B:Bk} (h:∀ p∈B.es,p.2.2.2<s):cutB s B=⟨[],B.up,B.parts⟩:=by
 unfold cutB
 rw[List.filter_eq_nil_iff.mpr (fun p hp=>by rw[decide_eq_true_eq]; have:=h p hp; omega)]
structure Rt (q:Qs) (f:Int) (Ri:List (List Rw)) (rl:List Rw) (z:Nat):Prop where
 rs:Rs q f Ri rl z
 first:q.first=f
 segs:∀ p∈q.B.es,f<=p.2.2.2/\p.2.2.2<=q.last
 sfold:∀ j:Nat,j<=Ri.length->foldR (f+(j:Int)) ⟨[],0,[]⟩ ((Ri++[rl]).drop j)=some (cutB (f+(j:Int)) q.B)
theorem from_same {B:Bk} {n s:Int} (hp:B.parts=[]) (hu:n<=B.up):foldB s B [("from",n,[])]=some B:=by
 show (match enterF B "from" n [] s with | none=>none | some B'=>some B')=_
 have:enterF B "from" n [] s=some B:=by
  unfold enterF
  rw[if_neg (by decide),if_neg (by decide),if_neg (fun y=>y hp),if_neg (by decide),if_pos rfl]
  unfold maxI
  rw[if_neg (by omega)]
 rw[this]
section
variable {q:Qs} {f:Int} {Ri:List (List Rw)} {rl:List Rw} {z:Nat}
theorem Rt.begin (h:Rt q f Ri rl z) (hb:f+(Ri.length:Int)<=100000) (hu:q.B.up<=999999):Rt (beginQ q) f (Ri++[rl]) [("from",q.B.up,[])] (z+7):=by
 have hlen:(Ri++[rl]).length=Ri.length+1:=by rw[List.length_append]; rfl
 refine⟨h.rs.begin hb hu,h.first,fun p hp=>?_,fun j hj=>?_⟩
 ·have:=h.segs p hp
  show f<=_/\_<=q.last+1
  omega
 ·by_cases hj2:j<=Ri.length
  ·rw[List.drop_append_of_le_length (by omega),foldR_app _ _ _ _ _ (h.sfold j hj2)]
   exact from_same h.rs.parts (Int.le_refl _)
  ·have ej:j=(Ri++[rl]).length:=by omega
   rw[ej,List.drop_left]
   have e1:cutB (f+((Ri++[rl]).length:Int)) (beginQ q).B=⟨[],q.B.up,[]⟩:=by
    have:=cutB_none (s:=f+((Ri++[rl]).length:Int)) (B:=q.B) (fun p hp=>by
     have h1:=(h.segs p hp).2
     have h2:=h.rs.last
     omega)
    rw[h.rs.parts]at this
    exact this
   rw[e1]
   show (match (match enterF ⟨[],0,[]⟩ "from" q.B.up [] (f+((Ri++[rl]).length:Int)) with | none=>none | some B'=>some B') with | none=>none | some B'=>some B')=_
   have:∀ s,enterF ⟨[],0,[]⟩ "from" q.B.up [] s=some (⟨[],q.B.up,[]⟩:Bk):=fun s=>by
    unfold enterF
    rw[if_neg (by decide),if_neg (by decide),if_neg (fun y=>y rfl),if_neg (by decide),if_pos rfl]
    have hu0:=h.rs.up
    show some (⟨[],maxI 0 q.B.up,[]⟩:Bk)=_
    unfold maxI
    split
    ·rfl
    ·rw[show q.B.up=0 by omega]
   rw[this]
theorem Rt.next (h:Rt q f Ri rl z) (hb:f+(Ri.length:Int)<=100000):∃ Ri' rl',Rt (nextQ q) f Ri' rl' (z+7)/\Ri'.length<=Ri.length+1:=by
 unfold nextQ
 split
 ·rename_i hf
  unfold fullB at hf
  rw[Bool.and_eq_true,Bool.not_eq_true',decide_eq_false_iff_not]at hf
  exact⟨_,_,h.begin hb (by omega),by rw[List.length_append]; exact Nat.le_refl _⟩
 ·exact⟨Ri,rl,⟨⟨h.rs.left,h.rs.f0,h.rs.last,h.rs.keys,h.rs.files,h.rs.good,h.rs.fold,h.rs.parts,h.rs.up,Nat.le_trans h.rs.size (Nat.le_add_right _ _)⟩,h.first,h.segs,h.sfold⟩,Nat.le_succ _⟩
theorem Rt.add (h:Rt q f Ri rl z) (hb:f+(Ri.length:Int)<=100000) {rs:List Rw} {B':Bk} (ok:∀ r∈rs,isRowD (rowR r)=true) (hc:∃ (a:List Rw) (r:Rw),rs=a++[r]/\r.1 ≠ "part") (hf:foldB q.last q.B rs=some B') (hcut:∀ s,s<=q.last->foldB q.last (cutB s q.B) rs=some (cutB s B')) (hs:∀ p∈B'.es,f<=p.2.2.2/\p.2.2.2<=q.last) (hp:B'.parts=[]) (hu:0<=B'.up):Rt (addQ q (rowsB rs) B') f Ri (rl++rs) (z+(rowsB rs).length):=by
 refine⟨h.rs.add hb ok hc hf hp hu,h.first,hs,fun j hj=>?_⟩
 have hl:=h.rs.last
 have e0:=h.sfold j hj
 rw[List.drop_append_of_le_length hj]at e0 ⊢
 obtain⟨B0,h1,h2⟩:=foldR_init _ _ _ _ _ e0
 rw[foldR_app _ _ _ _ _ h1,foldB_app _ _ _ _ _ h2,List.length_drop,show f+(j:Int)+((Ri.length - j:Nat):Int)=q.last by omega]
 exact hcut _ (by omega)
theorem Rt.step (h:Rt q f Ri rl z) (hb:f+(Ri.length:Int)<100000) {rs:List Rw} {B':Int->Bk} (ok:∀ r∈rs,isRowD (rowR r)=true) (hc:∃ (a:List Rw) (r:Rw),rs=a++[r]/\r.1 ≠ "part") (hf:∀ s l,s<=l->q.last<=l->foldB l (cutB s q.B) rs=some (cutB s (B' l))) (hk:∀ l,foldB l q.B rs=some (B' l)) (hs:∀ l,q.last<=l->∀ p∈(B' l).es,f<=p.2.2.2/\p.2.2.2<=l) (hp:∀ l,(B' l).parts=[]) (hu:∀ l,0<=(B' l).up):∃ Ri' rl',Rt (addQ (nextQ q) (rowsB rs) (B' (nextQ q).last)) f Ri' rl' (z+7+(rowsB rs).length)/\Ri'.length<=Ri.length+1:=by
 obtain⟨Ri',rl',h1,h2⟩:=h.next (by omega)
 have nb:=(next_now q).2.2.2
 have nl:q.last<=(nextQ q).last:=by
  unfold nextQ
  split
  ·show q.last<=q.last+1
   omega
  ·exact Int.le_refl _
 exact⟨Ri',_,h1.add (by omega) ok hc (by rw[nb]; exact hk _) (fun s hs'=>by rw[nb]; exact hf s _ hs' nl) (hs _ nl) (hp _) (hu _),h2⟩
theorem look_dropA (fs:List (Str × List Int)) {n x:Str} (h:x≠n):lookF (dropA fs n) x=lookF fs x:=by
 unfold lookF dropA
 congr 1
 rw[List.find?_filter]
 congr 1
 funext p
 by_cases y:p.1=x
 ·rw[decide_eq_true y,decide_eq_true (show p.1≠n from fun w=>h (y.symm.trans w))]
  rfl
 ·rw[decide_eq_false y]
  exact decide_eq_false (fun w=>by cases w.2)
theorem Rt.drop {r0:List Rw} (h:Rt q f (r0::Ri) rl z) (he:q.B.es=[]) (hb:f+(Ri.length:Int)<=100000):Rt (dropF q) (f+1) Ri rl z:=by
 have hf0:=h.rs.f0
 have hB:∀ s,cutB s q.B=q.B:=fun s=>cutB_all (fun p hp=>by rw[he]at hp; cases hp)
 have hl:=h.rs.last
 rw[List.length_cons]at hl
 have ne:∀ i:Nat,i<Ri.length+1->segN (f+1+(i:Int))≠segN f:=fun i hi y=>by
  have:=segN_inj ⟨by omega,by omega⟩ ⟨by omega,by omega⟩ y
  omega
 refine⟨⟨rfl,by omega,?_,?_,fun i rs e=>?_,fun rs hr=>h.rs.good rs (List.mem_cons_of_mem _ hr),?_,h.rs.parts,h.rs.up,?_⟩,?_,(fun p hp=>by rw[show (dropF q).B.es=[] from he]at hp; cases hp),fun j hj=>?_⟩
 ·show q.last=f+1+(Ri.length:Int)
  omega
 ·show (dropA q.D.fs (segN q.first)).map (·.1)=_
  rw[h.first]
  have e1:(dropA q.D.fs (segN f)).map (·.1)=(q.D.fs.map (·.1)).filter fun x=>decide (x≠segN f):=by
   unfold dropA
   rw[List.filter_map]
   rfl
  rw[e1,h.rs.keys,List.length_cons,List.range_succ_eq_map,List.map_cons,List.filter_cons,if_neg (by simp),List.map_map,List.filter_eq_self.mpr]
  ·apply List.map_congr_left
   intro i _
   show segN (f+((i+1:Nat):Int))=segN (f+1+(i:Int))
   rw[show f+((i+1:Nat):Int)=f+1+(i:Int) by omega]
  ·intro x hx
   rw[List.mem_map]at hx
   obtain⟨i,hi,rfl⟩:=hx
   rw[List.mem_range]at hi
   refine decide_eq_true ?_
   have:=ne i hi
   show segN (f+((i+1:Nat):Int))≠segN f
   rw[show f+((i+1:Nat):Int)=f+1+(i:Int) by omega]
   exact this
 ·show lookF (dropA q.D.fs (segN q.first)) _=_
  have hi:i<Ri.length+1:=by
   have:=(List.getElem?_eq_some_iff.mp e).1
   rw[List.length_append,List.length_singleton]at this
   exact this
  rw[h.first,look_dropA _ (ne i hi)]
  have:=h.rs.files (i+1) rs e
  rw[show f+((i+1:Nat):Int)=f+1+(i:Int) by omega]at this
  exact this
 ·have:=h.sfold 1 (by rw[List.length_cons]; omega)
  rw[hB]at this
  exact this
 ·have:=h.rs.size
  rw[List.cons_append,List.map_cons,List.sum_cons]at this
  omega
 ·show q.first+1=f+1
  rw[h.first]
 ·have:=h.sfold (j+1) (by rw[List.length_cons]; omega)
  rw[hB,show f+((j+1:Nat):Int)=f+1+(j:Int) by omega]at this
  rw[show cutB (f+1+(j:Int)) (dropF q).B=q.B from hB _]
  exact this
theorem Rt.hs (h:Rt q f Ri rl z) {z':Nat} (hz:z<=z') (hs:List (Int × (Str × Int))):Rt { q with hs:=hs } f Ri rl z':=⟨⟨h.rs.left,h.rs.f0,h.rs.last,h.rs.keys,h.rs.files,h.rs.good,h.rs.fold,h.rs.parts,h.rs.up,Nat.le_trans h.rs.size hz⟩,h.first,h.segs,h.sfold⟩
end
theorem put_app {es:List (Int × Ent)} {n:Int} (e:Ent) (h:∀ p∈es,p.1<n):putE es n e=es++[(n,e)]:=by
 unfold putE
 rw[if_neg]
 rw[List.any_eq_true]
 rintro ⟨p,hp,z⟩
 have:=h p hp
 have:=of_decide_eq_true z
 omega
theorem gen_put {B:Bk} {n:Int} (l:Int) (b:List Int) (hp:B.parts=[]) (hk:∀ p∈B.es,p.1<n) (hu:B.up=n):foldB l B [("put",n,b)]=some ⟨B.es++[(n,(b,0,l))],n+1,[]⟩:=by
 show (match enterF B "put" n b l with | none=>none | some B'=>some B')=_
 have:enterF B "put" n b l=some ⟨B.es++[(n,(b,0,l))],n+1,[]⟩:=by
  unfold enterF
  rw[if_neg (by decide),if_neg (by decide),if_neg (fun y=>y hp),if_pos rfl]
  unfold put1
  rw[if_neg (by omega),put_app _ hk,hp]
 rw[this]
theorem gen_puts (l:Int):∀ (bss:List (List Int)) (es:List (Int × Ent)) (n:Int),(∀ p∈es,p.1<n)->puts l ⟨es,n,[]⟩ (partsL n bss)=some ⟨es++mkEs n (bss.map (·,l)),n+(bss.length:Int),[]⟩
 | [],es,n,_=>by
  show some _=some _
  rw[show n+((([]:List (List Int)).length:Nat):Int)=n by simp]
  show some _=some (⟨es++[],n,[]⟩:Bk)
  rw[List.append_nil]
 | b::bss,es,n,h=>by
  show (match put1 ⟨es,n,[]⟩ n b l with | none=>none | some B'=>puts l B' (partsL (n+1) bss))=_
  have e1:put1 ⟨es,n,[]⟩ n b l=some ⟨es++[(n,(b,0,l))],n+1,[]⟩:=by
   unfold put1
   rw[if_neg (by show ¬ n<n; omega),put_app _ h]
  rw[e1]
  dsimp only
  rw[gen_puts l bss _ (n+1) (fun p hp=>by
   rcases List.mem_append.mp hp with y | y
   ·have:=h p y
    omega
   ·rw[List.mem_singleton.mp y]
    show n<n+1
    omega),List.append_assoc,List.length_cons,show n+1+(bss.length:Int)=n+((bss.length+1:Nat):Int) by omega]
  rfl
theorem gen_deal {B:Bk} {n:Int} (l:Int) (bss:List (List Int)) (hp:B.parts=[]) (hk:∀ p∈B.es,p.1<n) (hu:B.up=n):foldB l B (dealR n bss)=some ⟨B.es++mkEs n (bss.map (·,l)),n+(bss.length:Int),[]⟩:=by
 obtain⟨es,up,ps⟩:=B
 have hp:ps=[]:=hp
 have hu:up=n:=hu
 subst hp hu
 unfold dealR
 rw[fold_parts,List.nil_append]
 show (match enterF ⟨es,up,partsL up bss⟩ "deal" up [(bss.length:Int)] l with | none=>none | some B'=>some B')=_
 have e2:enterF ⟨es,up,partsL up bss⟩ "deal" up [(bss.length:Int)] l=dealF ⟨es,up,partsL up bss⟩ up (bss.length:Int) l:=by
  unfold enterF
  rw[if_neg (by decide),if_pos rfl]
  rfl
 rw[e2]
 unfold dealF
 rw[if_pos (by rw[Int.toNat_natCast]; exact partsL_keys _ _),gen_puts l bss es up hk]
theorem lookE_no {es:List (Int × Ent)} {n:Int} (h:∀ p∈es,p.1≠n):lookE es n=none:=by
 unfold lookE
 rw[Option.map_eq_none_iff,List.find?_eq_none]
 intro p hp y
 exact h p hp (of_decide_eq_true y)
theorem look_head (n:Int) (e:Ent) (r:List (Int × Ent)):lookE ((n,e)::r) n=some e:=by
 unfold lookE
 rw[List.find?_cons,decide_eq_true rfl]
 rfl
theorem gen_no {k:Str} {r:List (Int × Ent)} {n up:Int} (l:Int) (hk:k = "out"\/k = "done") (h:∀ p∈r,p.1≠n):foldB l ⟨r,up,[]⟩ [(k,n,[])]=some ⟨r,up,[]⟩:=by
 show (match enterF ⟨r,up,[]⟩ k n [] l with | none=>none | some B'=>some B')=_
 have:enterF ⟨r,up,[]⟩ k n [] l=some ⟨r,up,[]⟩:=by
  unfold enterF
  rcases hk with rfl | rfl <;> rw[if_neg (by decide),if_neg (by decide),if_neg (fun y=>y rfl),if_neg (by decide),if_neg (by decide),if_neg (by decide)] <;> (show (match lookE r n with | none=>_ | some e=>_)=_) <;> rw[lookE_no h]
 rw[this]
theorem gen_out {b:List Int} {t s:Int} {r:List (Int × Ent)} {n up:Int} (l:Int) (h:∀ p∈r,p.1≠n):foldB l ⟨(n,(b,t,s))::r,up,[]⟩ [("out",n,[])]=some ⟨(n,(b,t+1,s))::r,up,[]⟩:=by
 show (match enterF ⟨(n,(b,t,s))::r,up,[]⟩ "out" n [] l with | none=>none | some B'=>some B')=_
 have:enterF ⟨(n,(b,t,s))::r,up,[]⟩ "out" n [] l=some ⟨(n,(b,t+1,s))::r,up,[]⟩:=by
  unfold enterF
  rw[if_neg (by decide),if_neg (by decide),if_neg (fun y=>y rfl),if_neg (by decide),if_neg (by decide),if_neg (by decide)]
  show (match lookE ((n,(b,t,s))::r) n with | none=>_ | some e=>_)=_
  rw[look_head]
  dsimp only
  rw[if_pos rfl]
  have:putE ((n,(b,t,s))::r) n (b,t+1,s)=(n,(b,t+1,s))::r:=by
   unfold putE
   rw[if_pos (by rw[List.any_cons,decide_eq_true rfl]; rfl),List.map_cons,if_pos rfl]
   congr 1
   rw[List.map_congr_left (g:=id) (fun p hp=>by rw[if_neg (h p hp)]; rfl),List.map_id]
  rw[this]
 rw[this]
theorem gen_done {e:Ent} {r:List (Int × Ent)} {n up:Int} (l:Int) (h:∀ p∈r,p.1≠n):foldB l ⟨(n,e)::r,up,[]⟩ [("done",n,[])]=some ⟨r,up,[]⟩:=by
 show (match enterF ⟨(n,e)::r,up,[]⟩ "done" n [] l with | none=>none | some B'=>some B')=_
 have:enterF ⟨(n,e)::r,up,[]⟩ "done" n [] l=some ⟨r,up,[]⟩:=by
  unfold enterF
  rw[if_neg (by decide),if_neg (by decide),if_neg (fun y=>y rfl),if_neg (by decide),if_neg (by decide),if_neg (by decide)]
  show (match lookE ((n,e)::r) n with | none=>_ | some e=>_)=_
  rw[look_head]
  dsimp only
  rw[if_neg (by decide),if_neg (by decide)]
  have:dropE ((n,e)::r) n=r:=by
   unfold dropE
   rw[List.filter_cons,if_neg (by simp),List.filter_eq_self.mpr (fun p hp=>decide_eq_true (h p hp))]
  rw[this]
 rw[this]
end Qh
end
section
namespace Qh
open PySem L2
def Kz (q:Qs) (es:List (Int × Ent)) (up:Int) (k c:Nat):Prop:=∃ f Ri rl,Rt q f Ri rl (7+31 * c)/\Ri.length<=k/\f+(Ri.length:Int)<=(c:Int)/\q.B=⟨es,up,[]⟩/\q.tries=3
section
variable {q:Qs} {es:List (Int × Ent)} {up:Int} {k c:Nat}
theorem Kz.wok (h:Kz q es up k c) {m:Nat} (hk:k<=60) (hc:c<=150) (he:es.length+m<900):WOk q m:=by
 obtain⟨f,Ri,rl,h1,h2,h3,h4,h5⟩:=h
 exact h1.rs.wok (by omega) (by omega) (by omega) (by rw[h4]; exact he)
theorem Kz.write (h:Kz q es up k c) (hk:k<=60) (hc:c<=150) {rs:List Rw} {es':Int->List (Int × Ent)} {up':Int} (ok:∀ r∈rs,isRowD (rowR r)=true) (hl:∃ (a:List Rw) (r:Rw),rs=a++[r]/\r.1 ≠ "part") (h24:(rowsB rs).length<=24) (hu:0<=up')
  (hf:∀ s l:Int,s<=l->foldB l ⟨es.filter (fun p=>decide (s<=p.2.2.2)),up,[]⟩ rs=some ⟨(es' l).filter (fun p=>decide (s<=p.2.2.2)),up',[]⟩) (hk2:∀ l,foldB l ⟨es,up,[]⟩ rs=some ⟨es' l,up',[]⟩) (hs:∀ l,∀ p∈es' l,p.2.2.2=l\/∃ p0∈es,p0.2.2.2=p.2.2.2) :
  foldB (nextQ q).last (nextQ q).B rs=some ⟨es' (nextQ q).last,up',[]⟩/\∀ hs',Kz { addQ (nextQ q) (rowsB rs) ⟨es' (nextQ q).last,up',[]⟩ with hs:=hs' } (es' (nextQ q).last) up' (k+1) (c+1):=by
 obtain⟨f,Ri,rl,h1,h2,h3,h4,h5⟩:=h
 have nb:=(next_now q).2.2.2
 refine⟨by rw[nb,h4]; exact hk2 _,fun hs'=>?_⟩
 obtain⟨Ri',rl',g1,g2⟩:=h1.step (by omega) (B':=fun l=>⟨es' l,up',[]⟩) ok hl (fun s l hs1 _=>by rw[h4]; exact hf s l hs1) (fun l=>by rw[h4]; exact hk2 l) (fun l hl2 p hp=>by
  rcases hs l p hp with y | ⟨p0,hp0,y⟩
  ·have:=h1.rs.last
   rw[y]
   constructor <;> omega
  ·have:=h1.segs p0 (by rw[h4]; exact hp0)
   rw[<- y]
   constructor <;> omega) (fun _=>rfl) (fun _=>hu)
 exact⟨f,Ri',rl',g1.hs (by omega) hs',by omega,by omega,rfl,(next_now q).2.2.1.trans h5⟩
theorem Kz.put (h:Kz q es up k c) (hk:k<=60) (hc:c<=150) (he:∀ p∈es,p.1<up) (u0:0<=up) (u9:up<=999999) (el:es.length<=100) {b:List Int} (hb:bytesOk b) (bl:b.length<=10) :
  WOk q 1/\foldB (nextQ q).last (nextQ q).B [("put",up,b)]=some ⟨es++[(up,(b,0,(nextQ q).last))],up+1,[]⟩/\Kz (putQ q b ⟨es++[(up,(b,0,(nextQ q).last))],up+1,[]⟩) (es++[(up,(b,0,(nextQ q).last))]) (up+1) (k+1) (c+1):=by
 have hB:q.B.up=up:=by
  obtain⟨_,_,_,_,_,_,h4,_⟩:=h
  rw[h4]
 have hh:∀ hs',{ addQ (nextQ q) (rowsB [("put",up,b)]) (⟨es++[(up,(b,0,(nextQ q).last))],up+1,[]⟩:Bk) with hs:=hs' } = { putQ q b ⟨es++[(up,(b,0,(nextQ q).last))],up+1,[]⟩ with hs:=hs' }:=fun hs'=>by
  unfold putQ
  rw[hB]
 obtain⟨w1,w2⟩:=h.write hk hc (rs:=[("put",up,b)]) (es':=fun l=>es++[(up,(b,0,l))]) (up':=up+1) (fun r hr'=>by rw[List.mem_singleton.mp hr']; exact row_ok (.inl rfl) u0 u9 hb (by omega)) ⟨[],_,rfl,show ("put" : Str) ≠ "part" by decide⟩ (by rw[rowsB_cons,List.length_append,rowB_len]; show 7+b.length+0<=24; omega) (by omega)
  (fun s l hsl=>by
   rw[gen_put l b rfl (fun p hp=>he p (List.mem_filter.mp hp).1) rfl,List.filter_append,List.filter_cons,if_pos (decide_eq_true hsl)]
   rfl) (fun l=>gen_put l b rfl he rfl) (fun l p hp=>by
   rcases List.mem_append.mp hp with y | y
   ·exact .inr ⟨p,y,rfl⟩
   ·rw[List.mem_singleton.mp y]
    exact .inl rfl)
 refine⟨h.wok hk hc (by omega),w1,?_⟩
 have:=w2 (putQ q b ⟨es++[(up,(b,0,(nextQ q).last))],up+1,[]⟩).hs
 rw[hh]at this
 exact this
theorem Kz.deal (h:Kz q es up k c) (hk:k<=60) (hc:c<=150) (he:∀ p∈es,p.1<up) (u0:0<=up) (u9:up<=999990) (el:es.length<=100) :
  WOk q 3/\foldB (nextQ q).last (nextQ q).B (dealR q.B.up [[1],[2]])=some ⟨es++mkEs up [([1],(nextQ q).last),([2],(nextQ q).last)],up+2,[]⟩/\Kz (allQ q [[1],[2]] ⟨es++mkEs up [([1],(nextQ q).last),([2],(nextQ q).last)],up+2,[]⟩) (es++mkEs up [([1],(nextQ q).last),([2],(nextQ q).last)]) (up+2) (k+1) (c+1):=by
 have hB:q.B.up=up:=by
  obtain⟨_,_,_,_,_,_,h4,_⟩:=h
  rw[h4]
 obtain⟨w1,w2⟩:=h.write hk hc (rs:=dealR up [[1],[2]]) (es':=fun l=>es++mkEs up [([1],l),([2],l)]) (up':=up+2) (fun r hr'=>by
   unfold dealR partsR at hr'
   rw[List.mem_append]at hr'
   rcases hr' with y | y
   ·rw[List.mem_map]at y
    obtain⟨j,hj,rfl⟩:=y
    have hj:j<2:=List.mem_range.mp hj
    match j,hj with
    | 0,_=>exact row_ok (.inr rfl) (by show (0:Int)<=up+((0:Nat):Int); omega) (by show up+((0:Nat):Int)<=999999; omega) (fun b hb=>by rw[List.mem_singleton.mp hb]; omega) (by decide)
    | 1,_=>exact row_ok (.inr rfl) (by show (0:Int)<=up+((1:Nat):Int); omega) (by show up+((1:Nat):Int)<=999999; omega) (fun b hb=>by rw[List.mem_singleton.mp hb]; omega) (by decide)
   ·rw[List.mem_singleton.mp y]
    exact deal_ok u0 (by omega) (by decide) (by decide)) ⟨partsR up [[1],[2]],_,rfl,show ("deal" : Str) ≠ "part" by decide⟩ (by
   show (rowsB [("part",up+((0:Nat):Int),[1]),("part",up+((1:Nat):Int),[2]),("deal",up,[((2:Nat):Int)])]).length<=24
   rw[rowsB_cons,rowsB_cons,rowsB_cons,List.length_append,List.length_append,List.length_append,rowB_len,rowB_len,rowB_len]
   exact Nat.le_refl _) (by omega)
  (fun s l hsl=>by
   rw[gen_deal l [[1],[2]] rfl (fun p hp=>he p (List.mem_filter.mp hp).1) rfl,List.filter_append]
   congr 3
   show mkEs up [([1],l),([2],l)]=_
   rw[List.filter_eq_self.mpr]
   intro p hp
   have hp:p∈[(up,(([1],0,l):Ent)),(up+1,(([2],0,l):Ent))]:=hp
   simp only[List.mem_cons,List.not_mem_nil,or_false]at hp
   rcases hp with rfl | rfl <;> exact decide_eq_true hsl) (fun l=>gen_deal l [[1],[2]] rfl he rfl) (fun l p hp=>by
   rcases List.mem_append.mp hp with y | y
   ·exact .inr ⟨p,y,rfl⟩
   ·have hp:p∈[(up,(([1],0,l):Ent)),(up+1,(([2],0,l):Ent))]:=y
    simp only[List.mem_cons,List.not_mem_nil,or_false]at hp
    rcases hp with rfl | rfl <;> exact .inl rfl)
 refine⟨h.wok hk hc (by omega),by rw[hB]; exact w1,?_⟩
 have:=w2 (allQ q [[1],[2]] ⟨es++mkEs up [([1],(nextQ q).last),([2],(nextQ q).last)],up+2,[]⟩).hs
 unfold allQ at this ⊢
 rw[hB]at this ⊢
 exact this
theorem bare_len (k:Str) (n:Int):(rowsB [(k,n,[])]).length=7:=by
 rw[rowsB_cons,List.length_append,rowB_len]
 rfl
theorem Kz.out {n s:Int} {b:List Int} {r:List (Int × Ent)} (h:Kz q ((n,(b,0,s))::r) up k c) (hk:k<=60) (hc:c<=150) (hr:∀ p∈r,p.1≠n) (n0:0<=n) (n9:n<=999999) (el:r.length<=100) (u0:0<=up) :
  WOk q 1/\foldB (nextQ q).last (nextQ q).B [("out",n,[])]=some ⟨(n,(b,0+1,s))::r,up,[]⟩/\∀ x,Kz (outQ q n x ⟨(n,(b,0+1,s))::r,up,[]⟩) ((n,(b,0+1,s))::r) up (k+1) (c+1):=by
 obtain⟨w1,w2⟩:=h.write hk hc (rs:=[("out",n,[])]) (es':=fun _=>(n,(b,0+1,s))::r) (up':=up) (fun r hr'=>by rw[List.mem_singleton.mp hr']; exact bare_ok (.inl rfl) n0 n9) ⟨[],_,rfl,show ("out" : Str) ≠ "part" by decide⟩ (by rw[bare_len]; decide) u0
  (fun s' l hsl=>by
   rw[List.filter_cons,List.filter_cons]
   by_cases y:s'<=s
   ·rw[if_pos (decide_eq_true y),if_pos (decide_eq_true y)]
    exact gen_out l (fun p hp=>hr p (List.mem_filter.mp hp).1)
   ·rw[if_neg (by rw[decide_eq_true_eq]; exact y),if_neg (by rw[decide_eq_true_eq]; exact y)]
    exact gen_no l (.inl rfl) (fun p hp=>hr p (List.mem_filter.mp hp).1)) (fun l=>gen_out l hr) (fun l p hp=>by
   rcases List.mem_cons.mp hp with y | y
   ·exact .inr ⟨_,List.mem_cons_self,by rw[y]⟩
   ·exact .inr ⟨p,List.mem_cons_of_mem _ y,rfl⟩)
 exact⟨h.wok hk hc (by rw[List.length_cons]; omega),w1,fun x=>w2 _⟩
theorem Kz.done {n:Int} {e:Ent} {r:List (Int × Ent)} (h:Kz q ((n,e)::r) up k c) (hk:k<=60) (hc:c<=150) (hr:∀ p∈r,p.1≠n) (n0:0<=n) (n9:n<=999999) (el:r.length<=100) (u0:0<=up) :
  WOk q 1/\foldB (nextQ q).last (nextQ q).B [("done",n,[])]=some ⟨r,up,[]⟩/\Kz (doneQ q n ⟨r,up,[]⟩) r up (k+1) (c+1):=by
 obtain⟨w1,w2⟩:=h.write hk hc (rs:=[("done",n,[])]) (es':=fun _=>r) (up':=up) (fun r hr'=>by rw[List.mem_singleton.mp hr']; exact bare_ok (.inr (.inr rfl)) n0 n9) ⟨[],_,rfl,show ("done" : Str) ≠ "part" by decide⟩ (by rw[bare_len]; decide) u0
  (fun s' l hsl=>by
   rw[List.filter_cons]
   by_cases y:s'<=e.2.2
   ·rw[if_pos (decide_eq_true y)]
    exact gen_done l (fun p hp=>hr p (List.mem_filter.mp hp).1)
   ·rw[if_neg (by rw[decide_eq_true_eq]; exact y)]
    exact gen_no l (.inr rfl) (fun p hp=>hr p (List.mem_filter.mp hp).1)) (fun l=>gen_done l hr) (fun l p hp=>.inr ⟨p,List.mem_cons_of_mem _ hp,rfl⟩)
 exact⟨h.wok hk hc (by rw[List.length_cons]; omega),w1,w2 _⟩
theorem Kz.ends (h:Kz q [] up k c) (hc:c<=150):q.first<=q.last/\(q.first<q.last->q.D.left=none/\numOk q.first/\(∃ bs,lookF q.D.fs (segN q.first)=some bs)/\Kz (dropF q) [] up k c)/\(q.first=q.last->Kz q [] up 0 c/\∃ n,numOk n/\q.D.fs.map (·.1)=[segN n]):=by
 obtain⟨f,Ri,rl,h1,h2,h3,h4,h5⟩:=h
 have hf:=h1.first
 have hl:=h1.rs.last
 have f0:=h1.rs.f0
 refine⟨by omega,fun hlt=>?_,fun he=>?_⟩
 ·cases Ri with
  | nil=>rw[List.length_nil]at hl; omega
  | cons r0 Ri'=>
   rw[List.length_cons]at h2 h3 hl
   refine⟨h1.rs.left,⟨by omega,by omega⟩,⟨rowsB r0,?_⟩,f+1,Ri',rl,h1.drop (by rw[h4]) (by omega),by omega,by omega,h4,h5⟩
   have:=h1.rs.files 0 r0 rfl
   rw[show f+((0:Nat):Int)=f by omega]at this
   rw[hf]
   exact this
 ·have e0:Ri=[]:=by
   cases Ri with
   | nil=>rfl
   | cons r0 Ri'=>rw[List.length_cons]at hl; omega
  subst e0
  refine⟨⟨f,[],rl,h1,Nat.le_refl _,h3,h4,h5⟩,f,⟨by omega,by rw[List.length_nil]at h3; omega⟩,?_⟩
  have:=h1.rs.keys
  rw[this]
  show [segN (f+((0:Nat):Int))]=_
  rw[show f+((0:Nat):Int)=f by omega]
theorem tab_self:∀ {fs:List (Str × List Int)},(fs.map (·.1)).Nodup->tabF fs (fs.map (·.1))=fs:=by
 intro fs nd
 unfold tabF
 rw[List.map_map]
 have:∀ p∈fs,lookF fs p.1=some p.2:=by
  intro p hp
  induction fs with
  | nil=>cases hp
  | cons r fs ih=>
   rw[List.map_cons,List.nodup_cons]at nd
   unfold lookF
   rw[List.find?_cons]
   rcases List.mem_cons.mp hp with y | y
   ·rw[y,decide_eq_true rfl]
    rfl
   ·have ne:r.1≠p.1:=fun w=>nd.1 (by rw[w]; exact List.mem_map_of_mem y)
    rw[decide_eq_false ne]
    exact ih nd.2 y
 conv=>rhs; rw[<- List.map_id fs]
 apply List.map_congr_left
 intro p hp
 show (p.1,(lookF fs p.1).getD [])=p
 rw[this p hp]
 rfl
theorem Kz.copy (h:Kz q [] up 0 c) (hc:c<=150) {ms:List Str} (hp:List.Perm ms (q.D.fs.map (·.1))) (d:Int):∃ ns mm,DiskGood ⟨tabF q.D.fs ms,d,none⟩ ns mm q.B/\∀ m hh t:Int,(initQ ⟨tabF q.D.fs ms,d,none⟩ mm q.B m hh t).hs=[]/\(initQ ⟨tabF q.D.fs ms,d,none⟩ mm q.B m hh t).B=⟨[],up,[]⟩/\(t=3->Kz (initQ ⟨tabF q.D.fs ms,d,none⟩ mm q.B m hh t) [] up 0 c)/\WOk (initQ ⟨tabF q.D.fs ms,d,none⟩ mm q.B m hh t) 1:=by
 obtain⟨f,Ri,rl,h1,h2,h3,h4,h5⟩:=h
 have e0:Ri=[]:=List.length_eq_zero_iff.mp (by omega)
 subst e0
 rw[List.length_nil]at h3
 have f0:=h1.rs.f0
 have by1:∀ rs∈[]++[rl],∀ b∈rowsB rs,0<=b/\b<=255:=fun rs hrs=>rowsB_bytes (h1.rs.good rs hrs).ok
 obtain⟨nn,g1,g2⟩:=h1.rs.copy (by rw[List.length_nil]; omega) (by decide) (by omega) hp d by1
 have ky:q.D.fs.map (·.1)=[segN f]:=by
  rw[h1.rs.keys]
  show [segN (f+((0:Nat):Int))]=_
  rw[show f+((0:Nat):Int)=f by omega]
 have ems:ms=[segN f]:=List.perm_singleton.mp (by rw[<- ky]; exact hp)
 have here:lookF q.D.fs (segN f)=some (rowsB rl):=by
  have:=h1.rs.files 0 rl rfl
  rw[show f+((0:Nat):Int)=f by omega]at this
  exact this
 have tk:tabF q.D.fs ms=[(segN f,rowsB rl)]:=by
  rw[ems]
  unfold tabF
  rw[List.map_cons,here]
  rfl
 have lone:lookF [(segN f,rowsB rl)] (segN f)=some (rowsB rl):=by
  unfold lookF
  rw[List.find?_cons,decide_eq_true rfl]
  rfl
 have rt:∀ m hh t,Rt (⟨⟨tabF q.D.fs ms,d,none⟩,q.B,m,hh,t,f,f+((0:Nat):Int),0,[]⟩:Qs) f [] rl (7+31 * c):=fun m hh t=>by
  refine⟨⟨rfl,f0,rfl,?_,fun i rs e=>?_,h1.rs.good,h1.rs.fold,h1.rs.parts,h1.rs.up,h1.rs.size⟩,rfl,(fun p hp=>by rw[show (⟨⟨tabF q.D.fs ms,d,none⟩,q.B,m,hh,t,f,f+((0:Nat):Int),0,[]⟩:Qs).B.es=[] from (by rw[h4])]at hp; cases hp),h1.sfold⟩
  ·show (tabF q.D.fs ms).map (·.1)=_
   rw[tk]
   show [segN f]=[segN (f+((0:Nat):Int))]
   rw[show f+((0:Nat):Int)=f by omega]
  ·show lookF (tabF q.D.fs ms) _=_
   cases i with
   | zero=>
    cases e
    rw[tk,show f+((0:Nat):Int)=f by omega]
    exact lone
   | succ i=>simp at e
 refine⟨nn,_,g1,fun m hh t=>?_⟩
 have e2:=g2 m hh t
 rw[e2]
 refine⟨rfl,h4,fun et=>⟨f,[],rl,rt m hh t,Nat.le_refl _,by rw[List.length_nil]; omega,h4,et⟩,?_⟩
 exact(rt m hh t).rs.wok (by rw[List.length_nil]; omega) (by decide) (by omega) (by show q.B.es.length+1<900; rw[h4]; show 0+1<900; decide)
end
def fromB:List Int:=rowB "from" 0 []
theorem look_one (bs:List Int) (m:Str):lookF [(segN 0,bs)] m=if m=segN 0 then some bs else none:=by
 unfold lookF
 rw[List.find?_cons]
 by_cases z:m=segN 0
 ·rw[if_pos z,decide_eq_true z.symm]
  rfl
 ·rw[if_neg z,decide_eq_false (fun y=>z y.symm)]
  rfl
theorem set_one (a b:List Int):setA [(segN 0,a)] (segN 0) b=[(segN 0,b)]:=by
 unfold setA
 rw[List.map_cons,if_pos rfl]
 rfl
theorem good_none:∃ d,goodN ⟨[],0,none⟩ []=(⟨[(segN 0,fromB)],d,none⟩,[0]):=by
 have e1:lookF [(segN 0,([]:List Int))] (segN 0)=some []:=by rw[look_one,if_pos rfl]
 have e0:(([0]:List Int).getLastD 0)=0:=rfl
 have hm:mkN ⟨[],0,none⟩ (segN 0)=⟨[(segN 0,[])],1,none⟩:=rfl
 unfold goodN
 rw[if_pos rfl,hm]
 unfold goodB
 rw[e0]
 dsimp only
 have ek:keptRows []=[]:=rfl
 rw[e1,Option.getD_some,ek,if_neg (fun z=>absurd z.2 (by decide)),if_pos rfl,if_neg (by decide)]
 refine⟨1+7,?_⟩
 show ((⟨setA [(segN 0,[])] (segN 0) (rowB "from" 0 []),1+((7:Nat):Int),none⟩:Dk),([0]:List Int))=_
 rw[set_one]
 rfl
theorem disk_none:DiskGood ⟨[],0,none⟩ [] [] ⟨[],0,[]⟩:=⟨rfl,⟨rfl,(fun _ h=>by cases h),by decide,(fun n bs e=>by cases e),by decide⟩,List.Perm.refl _,List.Pairwise.nil,.inl rfl,(fun bs e=>by cases e),rfl⟩
theorem bods_inj {a b:List (List Int)} (h:bodsD a=bodsD b):a=b:=by
 have e:∀ c:List (List Int),(bodsD c).map intsOf=c:=fun c=>by
  unfold bodsD
  rw[List.map_map]
  have:(intsOf ∘ fun b:List Int=>PyData.tuple (b.map .int))=id:=funext fun b=>ints_int b
  rw[this,List.map_id]
 rw[<- e a,<- e b,h]
theorem Step.keepS {H0 Hc Hn:Hp} {L L':Pl} (st:Step L L' Hc Hn) (S:Same H0 Hc) (fr:∀ b,isQu L b->H0 b=none):Same H0 Hn/\∀ b,isQu L' b->H0 b=none:=by
 refine⟨fun b o e=>st.frm b o (S b o e) (fun z=>by rw[fr b z]at e; cases e),fun b hb=>?_⟩
 rcases st.grow b hb with z | z
 ·exact fr b z
 ·exact S.free z
def PEv (σ : St) (H0:Hp) (te:TE) (d:PyData):Prop:=∀ (H:Hp) (Q:VK),Same H0 H->(∀ v H',Same H H'->Den H' d v->Q v H')->te σ H Q
def PAv (σ : St) (H0:Hp) (t:TA) (ds:List PyData):Prop:=∀ (H:Hp) (Q:List V->Hp->Prop),Same H0 H->(∀ vs H',Same H H'->Dens H' ds vs->Q vs H')->t σ H Q
theorem ev_of {σ : St} {H0:Hp} {te:TE} {d:PyData} (h:PEd te d):PEv σ H0 te d:=fun H Q _ q=>h σ H Q q
theorem ev_var {σ : St} {H0:Hp} {i:Nat} {v:V} {d:PyData} (e:σ[i]? = some (some v)) (h:Den H0 d v):PEv σ H0 (tVar i) d:=fun H Q s q=>⟨v,e,q v H (Same.refl H) (h.same s)⟩
theorem av_nil {σ : St} {H0:Hp}:PAv σ H0 tNil []:=fun H Q _ q=>q _ H (Same.refl H) (by simp only[Dens])
theorem av_cons {σ : St} {H0:Hp} {te:TE} {t:TA} {d:PyData} {ds:List PyData} (h1:PEv σ H0 te d) (h2:PAv σ H0 t ds):PAv σ H0 (tCons te t) (d::ds):=fun H Q s q=>
 h1 H _ s fun v H1 s1 d1=>h2 H1 _ (s.trans s1) fun vs H2 s2 d2=>q _ H2 (s1.trans s2) (by simp only[Dens]; exact⟨v,vs,rfl,d1.same s2,d2⟩)
theorem ev_tup {σ : St} {H0:Hp} {t:TA} {ds:List PyData} (hl:ds.length<=sizeLine) (h:PAv σ H0 t ds):PEv σ H0 (tTup t) (.tuple ds):=fun H Q s q=>
 h H _ s fun vs H1 s1 d1=>⟨by rw[d1.length]; exact hl,fun p hp=>q _ _ (s1.trans (same_upd hp)) (by simp only[Den]; exact⟨p,vs,rfl,upd_same,d1.same (same_upd hp)⟩)⟩
theorem asg_ev {te:TE} {d:PyData} {i:Nat} {b:TS} {D:Ends} {σ : St} {H:Hp} (h:PEv σ H te d) (k:∀ v H',Same H H'->Den H' d v->b D (σ.set i (some v)) H'):tSeq (tAsg te (gName i)) b D σ H:=by
 show te σ H (fun x H1=>b D (σ.set i (some x)) H1)
 exact h H _ (Same.refl H) k
theorem con_ev {te:TE} {d:PyData} {σ : St} {H:Hp} {k:List V->Hp->Prop} (h:PEv σ H te d) (q:∀ v H',Same H H'->Den H' d v->k [v] H'):tCons te tNil σ H k:=h H _ (Same.refl H) q
theorem con_go {σ : St} {H:Hp} {v:V} {k:List V->Hp->Prop} (h:k [v] H):tCons (tC v) tNil σ H k:=h
theorem ne_ints {G:Hp} {p1 p2:Addr} {ns:List Int} {Q:VK} (h1:G p1=some (.lst (ns.map V.int))) (h2:G p2=some (.lst (ns.map V.int))) (q:Q (.bl false) G):rNeD (.ref p1) (.ref p2) G Q:=by
 refine⟨.list (ns.map .int),.list (ns.map .int),?_,?_,shaped_intsL _,shaped_intsL _,?_⟩
 ·simp only[Den]
  exact⟨p1,_,rfl,h1,dens_ints.mpr rfl⟩
 ·simp only[Den]
  exact⟨p2,_,rfl,h2,dens_ints.mpr rfl⟩
 rw[eqv_intsL,decide_eq_true rfl]
 exact q
theorem ne_same2 {G:Hp} {v1 v2:V} {d:PyData} {Q:VK} (h1:Den G d v1) (h2:Den G d v2) (hs:seqD d=true) (hd:PyData.depth d<=64) (q:Q (.bl false) G):rNeD v1 v2 G Q:=by
 refine⟨d,d,h1,h2,shaped_of hs hd,shaped_of hs hd,?_⟩
 rw[eqv_refl hs]
 exact q
theorem hand_a:wordD hands 6 (.str "a")=true/\(("a" : Str).length<=1000/\ascii "a" = true):=by decide +kernel
theorem free_nil (n:Int):freeB [] n=true:=rfl
def Dz (D:Dk) (due:Int) (c:Nat):Prop:=∃ ns ms B,DiskGood D ns ms B/\∀ m hh:Int,Kz (initQ D ms B m hh 3) [] due 0 c/\(initQ D ms B m hh 3).hs=[]
theorem Kz.dz {q:Qs} {up:Int} {c:Nat} (h:Kz q [] up 0 c) (hc:c<=150) (nd:(q.D.fs.map (·.1)).Nodup):Dz q.D up c:=by
 obtain⟨ns,mm,g1,g2⟩:=h.copy hc (List.Perm.refl _) q.D.done
 have el:q.D.left=none:=by
  obtain⟨_,_,_,h1,_⟩:=h
  exact h1.rs.left
 have eD:(⟨tabF q.D.fs (q.D.fs.map (·.1)),q.D.done,none⟩:Dk)=q.D:=by
  rw[tab_self nd,<- el]
 rw[eD]at g1
 refine⟨ns,mm,q.B,g1,fun m hh=>?_⟩
 have:=g2 m hh 3
 rw[eD]at this
 exact⟨this.2.2.1 rfl,this.1⟩
theorem Dz.first:Dz ⟨[],0,none⟩ 0 0:=by
 refine⟨[],[],⟨[],0,[]⟩,disk_none,fun m hh=>?_⟩
 obtain⟨d,eg⟩:=good_none
 have eq0:initQ ⟨[],0,none⟩ [] ⟨[],0,[]⟩ m hh 3=⟨⟨[(segN 0,fromB)],d,none⟩,⟨[],0,[]⟩,m,hh,3,0,0,0,[]⟩:=by
  unfold initQ
  rw[eg]
  rfl
 rw[eq0]
 refine⟨⟨0,[],[("from",0,[])],?_,Nat.le_refl _,Int.le_refl _,rfl,rfl⟩,rfl⟩
 have e1:rowsB [("from",0,[])]=fromB:=by
  rw[rowsB_cons]
  exact List.append_nil _
 have ef:foldR 0 ⟨[],0,[]⟩ [[("from",0,[])]]=some (⟨[],0,[]⟩:Bk):=by
  show (match (match enterF ⟨[],0,[]⟩ "from" 0 [] 0 with | none=>none | some B'=>some B') with | none=>none | some B'=>some B')=some (⟨[],0,[]⟩:Bk)
  have:enterF ⟨[],0,[]⟩ "from" 0 [] 0=some (⟨[],0,[]⟩:Bk):=by
   unfold enterF
   rw[if_neg (by decide),if_neg (by decide),if_neg (fun y=>y rfl),if_neg (by decide),if_pos rfl]
   rfl
  rw[this]
 refine⟨⟨rfl,Int.le_refl _,rfl,rfl,fun i rs e=>?_,fun rs hr'=>?_,ef,rfl,Int.le_refl _,?_⟩,rfl,(fun p hp=>by cases hp),fun j hj=>?_⟩
 ·cases i with
  | zero=>
   cases e
   rw[e1]
   show lookF [(segN 0,fromB)] (segN (0+((0:Nat):Int)))=some fromB
   rw[show (0:Int)+((0:Nat):Int)=0 by rfl,look_one,if_pos rfl]
  | succ i=>simp at e
 ·rw[List.mem_singleton.mp hr']
  refine⟨fun r hr2=>?_,⟨_,[],rfl⟩,cut_snoc [] _ (show ("from" : Str) ≠ "part" by decide)⟩
  rw[List.mem_singleton.mp hr2]
  exact from_ok (by decide) (by decide)
 ·show (rowsB [("from",0,[])]).length+0<=7
  rw[e1]
  unfold fromB
  rw[rowB_len]
  exact Nat.le_refl _
 ·have ej:j=0:=by rw[List.length_nil]at hj; omega
  subst ej
  exact ef
theorem mix_in (c p:Int) {m:Int} (hm:0<m):0<=mixF c p m/\mixF c p m<m:=⟨Int.emod_nonneg _ (by omega),Int.emod_lt_of_pos _ hm⟩
theorem es_lt {n:Int}:∀ {l:List (List Int × Int)} {u:Int},u=n+(l.length:Int)->∀ p∈mkEs n l,p.1<u:=by
 intro l u hu p hp
 have:p.1∈(mkEs n l).map (·.1):=List.mem_map_of_mem hp
 rw[mkEs_keys,mem_nums]at this
 omega
theorem es_times:∀ (n:Int) (l:List (List Int × Int)) (m:Int),timesE (mkEs n l) m=0:=by
 have h0:∀ (n:Int) (l:List (List Int × Int)),∀ p∈mkEs n l,p.2.2.1=0:=by
  intro n l
  induction l generalizing n with
  | nil=>intro p hp; cases hp
  | cons x l ih=>
   intro p hp
   rcases List.mem_cons.mp hp with y | y
   ·rw[y]
   ·exact ih (n+1) p y
 intro n l m
 unfold timesE lookE
 cases e:(mkEs n l).find? fun p=>decide (p.1=m) with
 | none=>rfl
 | some p=>exact h0 n l p (List.mem_of_find?_eq_some e)
theorem use_take {A:Ad} {H:Hp} {L:Pl} {q:Qs} {n up:Int} {l:List (List Int × Int)} {k c:Nat} {Q:V->Hp->Prop} {E:XK} (hq:QueueW A H L q false) (kz:Kz q (mkEs n l) up k c) (hsq:q.hs=[]) (n0:0<=n) (hn:n+(l.length:Int)=up) (u9:up<=999999) (ll:l.length<=20) (hk:k<=60) (hc:c<=150)
  (q0:l=[]->∀ H',Same H H'->Q .non H')
  (q1:∀ b s l',l=(b,s)::l'->∀ p L' H' q',Step L L' H H'->QueueW A H' L' q' false->q'.hs=[(n,(("a" : Str),q.now))]->Kz q' ((n,(b,0+1,s))::mkEs (n+1) l') up (k+1) (c+1)->Den H' (letD n (b,0+1,s)) (.ref p)->Q (.ref p) H'):sp_q_take A [.ref L.qu,.str "a"] H Q E:=by
 have ees:q.B.es=mkEs n l/\q.tries=3:=by
  obtain⟨_,_,_,_,_,_,h4,h5⟩:=kz
  rw[h4]
  exact⟨rfl,h5⟩
 have rd:readyF q (numsL n l.length)=numsL n l.length:=by
  unfold readyF
  rw[hsq,ees.1,ees.2,List.filter_eq_self.mpr (fun m _=>free_nil m),List.filter_eq_self.mpr (fun m _=>by rw[es_times]; decide)]
 refine⟨L,q,"a",numsL n l.length,rfl,hq,by rw[ees.1,mkEs_len]; omega,by rw[hsq]; decide,hand_a.1,hand_a.2,by rw[ees.1,mkEs_keys],nums_sorted _ _,fun e=>?_,fun m r er=>?_⟩
 ·rw[rd]at e
  have:=congrArg List.length e
  unfold numsL at this
  rw[List.length_map,List.length_range]at this
  exact q0 (List.length_eq_zero_iff.mp this)
 ·rw[rd]at er
  cases l with
  | nil=>cases er
  | cons x l'=>
   obtain⟨b,s⟩:=x
   rw[List.length_cons]at er hn ll
   rw[nums_cons]at er
   injection er with em _
   subst em
   have hr:∀ p∈mkEs (n+1) l',p.1≠n:=fun p hp=>by
    have:p.1∈(mkEs (n+1) l').map (·.1):=List.mem_map_of_mem hp
    rw[mkEs_keys,mem_nums]at this
    omega
   have kz':Kz q ((n,(b,0,s))::mkEs (n+1) l') up k c:=kz
   obtain⟨w1,w2,w3⟩:=kz'.out hk hc hr n0 (by omega) (by rw[mkEs_len]; omega) (by omega)
   refine⟨w1,n0,by omega,_,_,w2,look_head _ _ _,fun p L' H' st hq' d'=>q1 b s l' rfl p L' H' _ st hq' ?_ (w3 "a") d'⟩
   show q.hs++_=_
   rw[hsq]
   rfl
def Wz (A:Ad) (H:Hp) (L:Pl) (up:Int) (c0:Nat) (σ0:List (Option V)) (cnt:Nat) (σ : St) (H':Hp):Prop:=Same H H'/\∃ (Lw:Pl) (qw:Qs) (tv:V),Lw.qu=L.qu/\Lw.dk=L.dk/\(∀ b,isQu Lw b->H b=none)/\QueueW A H' Lw qw false/\σ = σ0++[some tv]/\
 ((cnt=0/\tv = .non/\qw.hs=[]/\∃ kk,kk<=29/\Kz qw [] up kk (c0+kk))\/
   (∃ (n:Int) (b:List Int) (s:Int) (l':List (List Int × Int)) (p pb:Addr) (tm:Int) (kk:Nat),cnt=l'.length+1/\tv = .ref p/\H' p=some (.tup [.int n,.ref pb,.int (0+1)])/\qw.hs=[(n,(("a" : Str),tm))]/\0<=n/\n+1+(l'.length:Int)=up/\l'.length<=9/\kk+2 * l'.length<=28/\Kz qw ((n,(b,0+1,s))::mkEs (n+1) l') up kk (c0+kk)))
theorem take_W {A:Ad} {H H1:Hp} {L L1:Pl} {q:Qs} {n up:Int} {l:List (List Int × Int)} {kk c0:Nat} {σ0:List (Option V)} {Q:V->Hp->Prop} {E:XK} (hq:QueueW A H1 L1 q false) (S:Same H H1) (fr:∀ b,isQu L1 b->H b=none) (eq:L1.qu=L.qu) (ed:L1.dk=L.dk) (kz:Kz q (mkEs n l) up kk (c0+kk)) (hsq:q.hs=[]) (n0:0<=n) (hn:n+(l.length:Int)=up) (u9:up<=999999) (ll:l.length<=10) (hk:kk+2 * l.length<=29) (hc:c0<=100)
  (go:∀ v H',Wz A H L up c0 σ0 l.length (σ0++[some v]) H'->Q v H'):sp_q_take A [.ref L1.qu,.str "a"] H1 Q E:=by
 refine use_take hq kz hsq n0 hn u9 (by omega) (by omega) (by omega) (fun e H' S'=>?_) (fun b s l' e p L' H' q' st hq' hs' kz' d'=>?_)
 ·subst e
  exact go _ _ ⟨S.trans S',L1,q,_,eq,ed,fr,hq.same S',rfl,.inl ⟨rfl,rfl,hsq,kk,by rw[List.length_nil]at hk; omega,kz⟩⟩
 ·subst e
  rw[List.length_cons]at hn ll hk
  obtain⟨S2,fr2⟩:=st.keepS S fr
  obtain⟨t,pb,et,g1,_⟩:=let_form d'
  cases et
  exact go _ _ ⟨S2,L',q',_,st.qu.trans eq,st.dk.trans ed,fr2,hq',rfl,.inr ⟨n,b,s,l',p,pb,q.now,kk+1,rfl,rfl,g1,hs',n0,by omega,by omega,by omega,kz'⟩⟩
theorem Kz.one {q:Qs} {up:Int} {c:Nat} (h:Kz q [] up 0 c) (hc:c<=150):q.D.fs.length<64/\(∀ x∈q.D.fs.map (·.1),∃ n,numOk n/\x=segN n)/\(∀ x bs,lookF q.D.fs x=some bs->bytesOk bs/\bs.length<=100000):=by
 obtain⟨f,Ri,rl,h1,h2,h3,h4,h5⟩:=h
 have f0:=h1.rs.f0
 have fl:=congrArg List.length h1.rs.keys
 rw[List.length_map,List.length_map,List.length_range]at fl
 refine⟨by omega,fun x hx=>?_,fun x bs e=>?_⟩
 ·rw[h1.rs.keys,List.mem_map]at hx
  obtain⟨i,hi,rfl⟩:=hx
  rw[List.mem_range]at hi
  exact⟨_,⟨by omega,by omega⟩,rfl⟩
 ·obtain⟨i,rs,_,_,hi,rfl⟩:=h1.rs.look e
  exact⟨rowsB_bytes (h1.rs.good rs (List.mem_of_getElem? hi)).ok,Nat.le_trans (h1.rs.len e) (by omega)⟩
end Qh
end
section
namespace Qh
open PySem L2
abbrev s_law:Stmt:=top 66
def sp_law (K:PySem.W.Frag):Sp:=fun vs H Q _=>∃ (a:Addr) (ns:List Int),vs=[.ref a]/\SqL K H a (ns.map V.int)/\∀ H',Q (.bl true) H'
section
variable {P:Program} {w:World} {K:PySem.W.Frag} {mg:Str->Option Value} {base:Heap} {A:Ad}
theorem sc_law:FnScope ["_law_script","_law_disk","_law_due","_law_time","_law_settings","_law_queue_here","_law_many","_law_k","_law_told"] ["_law_script"] (defScope s_law):=‹0›
set_option maxHeartbeats 2000000 in
theorem ok_law {f:Addr} {fd:FuncData} (F:Fun K "law" "law" s_law f fd) (T:TxtQ K mg A) (c_Disk:‹12› "Disk" A.disk 3 ["self","steps"] (sp_dinit A.disk A.badNumber))
  (mQ_sizes:‹11› A.queue "sizes" 5 ["self"] (sp_q_sizes A)) (mQ_letters:‹11› A.queue "letters" 3 ["self"] (sp_q_letters A)) (mQ_coming:‹11› A.queue "coming" 1 ["self"] (sp_q_coming A)) (mQ_put:‹11› A.queue "put" 8 ["self","body"] (sp_q_put A)) (mQ_put_all:‹11› A.queue "put_all" 8 ["self","bodies"] (sp_q_putall A)) (mQ_take:‹11› A.queue "take" 8 ["self","hand"] (sp_q_take A)) (mQ_done:‹11› A.queue "done" 8 ["self","hand","number"] (sp_q_done A)) (mQ_carry:‹11› A.queue "carry" 8 ["self"] (sp_q_carry A)) (mQ_sweep:‹11› A.queue "sweep" 6 ["self"] (sp_q_sweep A))
  (c__law_cell:‹10› "_law_cell" 1 ["_law_script","_law_k"] (sp_cell K)) (c__law_mix:‹10› "_law_mix" 1 ["_law_cell_here","_law_prime","_law_many"] sp_mix) (c__law_queue:‹10› "_law_queue" 10 ["_law_disk","_law_settings"] (sp_lqueue A)) (c__law_copy:‹10› "_law_copy" 5 ["_law_disk"] (sp_copy A.disk)) :
  ‹9› 11 f fd ["_law_script"] (sp_law K):=by
 refine F.okX sc_law (fun vs H Q E h=>?_) (fun cdv A' outer s H vs Q E hr h=>?_)
 ·obtain⟨a,ns,rfl,_⟩:=h
  rfl
 ·obtain⟨a,ns,rfl,hs,q⟩:=h
  refine⟨_,@pss_cons _ _ _ _ _ (@ps_set _ _ (1) _ _ _ _ sc_law.nd (by rfl) (by first | exact Or.inl (by rfl) | exact Or.inr (by rfl)) (@pe_mk _ _ _ _ _ _ _ _ _ _ _ _ c_Disk ‹15› passN (@pa_Constant _ _ _ _ _ _ _ (@pe_non _ _ _) (@pa_nil _)) ⋯ ⋯ ⋯ ⋯) ⋯ ⋯) (@pss_cons _ _ _ _ _ (@ps_set _ _ (2) _ _ _ _ sc_law.nd (by rfl) (by first | exact Or.inl (by rfl) | exact Or.inr (by rfl)) ‹24› ⋯ ⋯) (@pss_cons _ _ _ _ _ (@ps_for _ _ _ _ _ _ _ _ (ownB own_cx) (by rfl) (@pi_range1 _ _ _ _ _ _ (by rfl) T.n_range (@pa_BinOp _ _ _ _ _ _ _ _ (@pe_op _ _ _ _ _ _ _ _ op_add ‹24› (@pe_op _ _ _ _ _ _ _ _ op_mod ‹38› ‹24›)) (@pa_nil _)) ⋯) (@pg_name _ _ (3) _ sc_law.nd (by rfl) (by first | exact Or.inl (by rfl) | exact Or.inr (by rfl)) ⋯) (@pss_cons _ _ _ _ _ (@ps_set _ _ (4) _ _ _ _ sc_law.nd (by rfl) (by first | exact Or.inl (by rfl) | exact Or.inr (by rfl)) (@pe_tup _ _ _ _ _ (@pa_BinOp _ _ _ _ _ _ _ _ (@pe_op _ _ _ _ _ _ _ _ op_add ‹24› (@pe_fn _ _ _ _ _ _ _ _ _ _ _ c__law_mix ‹15› passN (@pa_BinOp _ _ _ _ _ _ _ _ (@pe_op _ _ _ _ _ _ _ _ op_add ‹38› ‹26›) (@pa_Constant _ _ _ _ _ _ _ ‹24› ‹41›)) ⋯ ⋯ ⋯ ⋯)) (@pa_Constant _ _ _ _ _ _ _ ‹24› ‹41›))) ⋯ ⋯) (@pss_cons _ _ _ _ _ (@ps_set _ _ (5) _ _ _ _ sc_law.nd (by rfl) (by first | exact Or.inl (by rfl) | exact Or.inr (by rfl)) (@pe_fn _ _ _ _ _ _ _ _ _ _ _ c__law_queue ‹15› passN (@pa_Name _ _ _ _ _ _ ‹21› (@pa_Name _ _ _ _ _ _ ‹28› (@pa_nil _))) ⋯ ⋯ ⋯ ⋯) ⋯ ⋯) (@pss_cons _ _ _ _ _ (@ps_if _ _ _ _ _ _ _ _ (@PW.pt _ _ _ (@pw_or _ _ _ _ _ _ _ (@pt_cmpR _ _ _ _ _ _ _ _ op_ne (@pe_me0 _ _ _ _ _ _ _ _ _ _ _ _ mQ_coming T.cl_Queue ‹15› passN ‹30› ⋯) ‹25› (nomark _)) (@pw_or1 _ _ _ _ (@pt_cmpR _ _ _ _ _ _ _ _ (op_neD hr.units) (@pe_me0 _ _ _ _ _ _ _ _ _ _ _ _ mQ_letters T.cl_Queue ‹15› passN ‹30› ⋯) (@pe_lst _ _ _ _ (@pa_nil _)) (nomark _))))) ‹27› (@pss_nil _)) (@pss_cons _ _ _ _ _ (@ps_set _ _ (6) _ _ _ _ sc_law.nd (by rfl) (by first | exact Or.inl (by rfl) | exact Or.inr (by rfl)) (@pe_fn _ _ _ _ _ _ _ _ _ _ _ c__law_mix ‹15› passN (@pa_BinOp _ _ _ _ _ _ _ _ (@pe_op _ _ _ _ _ _ _ _ op_add ‹38› (@pe_op _ _ _ _ _ _ _ _ op_mul ‹24› ‹26›)) (@pa_Constant _ _ _ _ _ _ _ ‹24› ‹41›)) ⋯ ⋯ ⋯ ⋯) ⋯ ⋯) (@pss_cons _ _ _ _ _ (@ps_for _ _ _ _ _ _ _ _ (ownB own_cx) (by rfl) (@pi_range1 _ _ _ _ _ _ (by rfl) T.n_range (@pa_Name _ _ _ _ _ _ (@pv _ 6 _ _ ⋯ ⋯ ⋯ ⋯) (@pa_nil _)) ⋯) (@pg_name _ _ (7) _ sc_law.nd (by rfl) (by first | exact Or.inl (by rfl) | exact Or.inr (by rfl)) ⋯) (@pss_one _ _ _ (@ps_if _ _ _ _ _ _ _ _ (@pt_cmpR _ _ _ _ _ _ _ _ op_ne (@pe_me _ _ _ _ _ _ _ _ _ _ _ _ _ _ _ mQ_put T.cl_Queue ‹15› passN ‹30› (@pa_Tuple _ _ _ _ _ _ _ (@pe_tup _ _ _ _ _ (@pa_Name _ _ _ _ _ _ (@pv _ 7 _ _ ⋯ ⋯ ⋯ ⋯) (@pa_Name _ _ _ _ _ _ ‹26› (@pa_nil _)))) (@pa_nil _)) ⋯ ⋯ ⋯) (@pe_op _ _ _ _ _ _ _ _ op_add ‹25› (@pv _ 7 _ _ ⋯ ⋯ ⋯ ⋯)) (nomark _)) ‹27› (@pss_nil _))) ⋯) (@pss_cons _ _ _ _ _ (@ps_if _ _ _ _ _ _ _ _ (@pt_cmpR _ _ _ _ _ _ _ _ (op_neD hr.units) (@pe_me _ _ _ _ _ _ _ _ _ _ _ _ _ _ _ mQ_put_all T.cl_Queue ‹15› passN ‹30› (@pa_Tuple _ _ _ _ _ _ _ (@pe_tup _ _ _ _ _ (@pa_Tuple _ _ _ _ _ _ _ (@pe_tup _ _ _ _ _ ‹41›) (@pa_Tuple _ _ _ _ _ _ _ (@pe_tup _ _ _ _ _ ‹41›) (@pa_nil _)))) (@pa_nil _)) ⋯ ⋯ ⋯) (@pe_lst _ _ _ _ (@pa_BinOp _ _ _ _ _ _ _ _ (@pe_op _ _ _ _ _ _ _ _ op_add ‹25› (@pv _ 6 _ _ ⋯ ⋯ ⋯ ⋯)) (@pa_BinOp _ _ _ _ _ _ _ _ (@pe_op _ _ _ _ _ _ _ _ op_add (@pe_op _ _ _ _ _ _ _ _ op_add ‹25› (@pv _ 6 _ _ ⋯ ⋯ ⋯ ⋯)) ‹24›) (@pa_nil _)))) (nomark _)) ‹27› (@pss_nil _)) (@pss_cons _ _ _ _ _ (@ps_set _ _ (2) _ _ _ _ sc_law.nd (by rfl) (by first | exact Or.inl (by rfl) | exact Or.inr (by rfl)) (@pe_op _ _ _ _ _ _ _ _ op_add (@pe_op _ _ _ _ _ _ _ _ op_add ‹25› (@pv _ 6 _ _ ⋯ ⋯ ⋯ ⋯)) ‹24›) ⋯ ⋯) (@pss_cons _ _ _ _ _ (@ps_set _ _ (8) _ _ _ _ sc_law.nd (by rfl) (by first | exact Or.inl (by rfl) | exact Or.inr (by rfl)) (@pe_me _ _ _ _ _ _ _ _ _ _ _ _ _ _ _ mQ_take T.cl_Queue ‹15› passN ‹30› ‹23› ⋯ ⋯ ⋯) ⋯ ⋯) (@pss_cons _ _ _ _ _ (@ps_while _ _ _ _ _ _ (ownB own_cx) (@pt_cmpR _ _ _ _ _ _ _ _ op_notN (@pv _ 8 _ _ ⋯ ⋯ ⋯ ⋯) (@pe_non _ _ _) (nomark _)) (@pss_cons _ _ _ _ _ (ps_expr (pe_me mQ_done T.cl_Queue ‹15› passN (pv 5) (pa_Constant pe_str (pa_Subscript (pe_ix (ix_tupK K) (pv 8) pe_int (fun _ _=>rfl)) pa_nil)))) (@pss_one _ _ _ (@ps_set _ _ (8) _ _ _ _ sc_law.nd (by rfl) (by first | exact Or.inl (by rfl) | exact Or.inr (by rfl)) (@pe_me _ _ _ _ _ _ _ _ _ _ _ _ _ _ _ mQ_take T.cl_Queue ‹15› passN ‹30› ‹23› ⋯ ⋯ ⋯) ⋯ ⋯)))) (@pss_cons _ _ _ _ _ (@ps_for _ _ _ _ _ _ _ _ (ownB own_cx) (by rfl) (@pi_range1 _ _ _ _ _ _ (by rfl) T.n_range (@pa_BinOp _ _ _ _ _ _ _ _ (@pe_op _ _ _ _ _ _ _ _ op_mod ‹38› ‹24›) (@pa_nil _)) ⋯) (@pg_name _ _ (7) _ sc_law.nd (by rfl) (by first | exact Or.inl (by rfl) | exact Or.inr (by rfl)) ⋯) (@pss_one _ _ _ (ps_expr (pe_me0 mQ_carry T.cl_Queue ‹15› passN (pv 5)))) ⋯) (@pss_cons _ _ _ _ _ (ps_expr (pe_me0 mQ_sweep T.cl_Queue ‹15› passN (pv 5))) (@pss_one _ _ _ (@ps_if _ _ _ _ _ _ _ _ (@PW.pt _ _ _ (@pw_or _ _ _ _ _ _ _ (@pt_cmpR _ _ _ _ _ _ _ _ op_ne (@pe_callB _ _ _ _ _ _ _ _ _ (call_lenK K) (by rfl) T.n_len bt_len (@pa_Call _ _ _ _ _ _ _ _ (@pe_me0 _ _ _ _ _ _ _ _ _ _ _ _ mQ_sizes T.cl_Queue ‹15› passN ‹30› ⋯) (@pa_nil _)) ⋯ ⋯ ⋯ ⋯) ‹24› (nomark _)) (@pw_or1 _ _ _ _ (@pt_cmpR _ _ _ _ _ _ _ _ op_ne (@pe_me0 _ _ _ _ _ _ _ _ _ _ _ _ mQ_coming T.cl_Queue ‹15› passN ‹30› ⋯) ‹25› (nomark _))))) ‹27› (@pss_nil _)))))))))))))) ⋯) (@pss_one _ _ _ (@ps_ret _ _ _ _ (@pe_cmpR _ _ _ _ _ _ _ _ op_eq (@pe_me _ _ _ _ _ _ _ _ _ _ _ _ _ _ _ mQ_put T.cl_Queue ‹15› passN (@pe_fn _ _ _ _ _ _ _ _ _ _ _ c__law_queue ‹15› passN (@pa_Call _ _ _ _ _ _ _ _ (@pe_fn _ _ _ _ _ _ _ _ _ _ _ c__law_copy ‹15› passN ‹40› ⋯ ⋯ ⋯ ⋯) (@pa_Tuple _ _ _ _ _ _ _ (@pe_tup _ _ _ _ _ (@pa_Constant _ _ _ _ _ _ _ ‹24› (@pa_Constant _ _ _ _ _ _ _ ‹24› ‹41›))) (@pa_nil _))) ⋯ ⋯ ⋯ ⋯) (@pa_Tuple _ _ _ _ _ _ _ (@pe_tup _ _ _ _ _ (@pa_nil _)) (@pa_nil _)) ⋯ ⋯ ⋯) ‹25› (nomark _)))))),?_⟩
  refine fun dk dx hdk hdx ne=>⟨dk,dx,.non,.none,rfl,upd_same,by simp only[Den],(fun z=>by cases z),fun _ df H1 f1 hdf hD1=>⟨rfl,?_⟩⟩
  have S1:Same H H1:=fun b o e=>by
   have nb:b≠dk:=ne_of_none e hdk
   have nd:b≠dx:=ne_of_none e hdx
   exact f1 b o (by rw[upd_ne nb,upd_ne nd]; exact e) nb
  have hdf0:H df=none:=by
   cases e:H df with
   | none=>rfl
   | some o=>
    rw[upd_ne (ne_of_none e hdk),upd_ne (ne_of_none e hdx),e]at hdf
    cases hdf
  have fresh1:∀ b,own dk df [] b->H b=none:=by
   rintro b (rfl | rfl | hb)
   ·exact hdk
   ·exact hdf0
   ·simp at hb
  have hDA:DiskAt A.disk H1 dk df [] ⟨[],0,none⟩:=hD1
  refine asg_ev (d:=.int 0) (ev_of ed_int) fun v2 H2 S2 d2=>?_
  simp only[Den]at d2
  subst d2
  have x0:=Int.emod_nonneg (ns.getD (Int.toNat 0) 0) (show (4:Int)≠0 by decide)
  have x1:=Int.emod_lt_of_pos (ns.getD (Int.toNat 0) 0) (show (0:Int)<4 by decide)
  refine⟨_,rfl,a,ns,0,rfl,by decide,(S1.trans S2).seq hs,_,_,rfl,rfl,(by show (0:Int)<4; decide),_,_,rfl,rfl,1+ns.getD (Int.toNat 0) 0 % 4,rfl,by omega,by omega,?_⟩
  obtain⟨tn,etn,tn1,tn4⟩:∃ tn:Nat,(1+ns.getD (Int.toNat 0) 0 % 4).toNat=tn/\1<=tn/\tn<=4:=⟨_,rfl,by omega,by omega⟩
  rw[etn]
  clear etn x0 x1
  refine for_src0 (src_range (H:=fun _=>none) 0 tn) (fun i σ H'=>Same H H'/\∃ dfi kvs D,∃ due:Int,∃ (c:Nat) (z3 z4 z5 z6 z7 z8:Option V),(∀ b,own dk dfi kvs b->H b=none)/\DiskAt A.disk H' dk dfi kvs D/\0<=due/\due<=10 * (i:Int)/\c<=30 * i/\Dz D due c/\(i≠0->∃ q0:Qs,q0.D=D/\Kz q0 [] due 0 c)/\σ = [some (.ref a),some (.ref dk),some (.int due),z3,z4,z5,z6,z7,z8]) ⟨S1.trans S2,df,[],⟨[],0,none⟩,0,0,_,_,_,_,_,_,fresh1,hDA.same S2,Int.le_refl _,by simp,Nat.zero_le _,Dz.first,fun z=>absurd rfl z,rfl⟩ (fun _ _ _ _ b o e=>by cases e) ?_ ?_
  ·rintro i x σ H3 H4 hi ⟨S3,dfi,kvs,D,due,c,z3,z4,z5,z6,z7,z8,fri,hDi,du0,du9,cc,dz,_,rfl⟩ s4 hx
   have hx:x = .int (0+(i:Int)):=hx
   rw[Int.zero_add]at hx
   subst hx
   have S4:=S3.trans s4
   have hD4:=hDi.same s4
   obtain⟨nn,mm,B,dg,kz⟩:=dz
   obtain⟨m0,m50⟩:=mix_in (ns.getD (Int.toNat 1) 0+(i:Int)) 9949 (m:=50) (by decide)
   refine⟨_,rfl,a,ns,1,rfl,by decide,S4.seq hs,_,rfl,_,_,rfl,rfl,_,9949,50,rfl,by decide,by decide,by decide,_,_,rfl,rfl,le_size,fun p5 hp5=>?_⟩
   have W5:=same_upd (o:=.tup [.int (1+mixF (ns.getD (Int.toNat 1) 0+(i:Int)) 9949 50),.int 9,.int 3]) hp5
   have w5:upd H4 p5 (.tup [.int (1+mixF (ns.getD (Int.toNat 1) 0+(i:Int)) 9949 50),.int 9,.int 3]) p5=some (.tup [.int (1+mixF (ns.getD (Int.toNat 1) 0+(i:Int)) 9949 50),.int 9,.int 3]):=upd_same
   generalize upd H4 p5 (.tup [.int (1+mixF (ns.getD (Int.toNat 1) 0+(i:Int)) 9949 50),.int 9,.int 3])=H5 at W5 w5 ⊢
   obtain⟨m,em⟩:∃ m,m=1+mixF (ns.getD (Int.toNat 1) 0+(i:Int)) 9949 50:=⟨_,rfl⟩
   rw[<- em]at w5
   obtain⟨kz7,hs7⟩:=kz m 9
   refine⟨_,rfl,_,rfl,dk,dfi,p5,kvs,D,nn,mm,B,m,9,3,rfl,w5,by omega,by omega,by decide,by decide,by decide,by decide,hD4.same W5,dg,fun L H7 eL f7 w7 hq7=>?_⟩
   have S47:Same H4 H7\/True:=.inr trivial
   have S7:Same H H7:=fun b o e=>f7 b o (W5 _ _ (S4 b o e)) (fun ho=>by rw[fri b ho]at e; cases e)
   have fr7:∀ b,isQu L b->H b=none:=fun b hb=>by
    rcases w7 b hb with y | y
    ·exact fri b y
    ·exact(S4.trans W5).free y
   subst eL
   clear f7 w7 w5 em hD4 hDi kz dg S47
   generalize initQ D mm B m 9 3=q7 at hq7 kz7 hs7
   have up7:q7.B.up=due:=by
    obtain⟨_,_,_,_,_,_,h4,_⟩:=kz7
    rw[h4]
   have es7:q7.B.es=[]:=by
    obtain⟨_,_,_,_,_,_,h4,_⟩:=kz7
    rw[h4]
   obtain⟨dx7,h7⟩:=hq7.self
   refine⟨_,rfl,L.qu,dx7,_,rfl,h7,rfl,L,q7,rfl,hq7,_,rfl,rfl,_,rfl,?_⟩
   rw[decide_eq_true (show V.int q7.B.up=V.int due by rw[up7])]
   refine iteF ?_
   refine⟨_,rfl,L.qu,dx7,_,rfl,h7,rfl,L,q7,rfl,hq7,by rw[es7]; decide,fun ms perm pw p8 H8 S8 d8=>?_⟩
   rw[es7]at perm d8
   have em:ms=[]:=List.Perm.eq_nil perm
   subst em
   refine⟨le_size,fun p9 hp9=>?_⟩
   have W9:=same_upd (o:=.lst []) hp9
   have w9:upd H8 p9 (.lst []) p9=some (.lst []):=upd_same
   generalize upd H8 p9 (.lst [])=H9 at W9 w9 ⊢
   refine ne_same2 (d:=.list []) (d8.same W9) (by simp only[Den,Dens]; exact⟨p9,[],rfl,w9,rfl⟩) rfl (by decide) ⟨_,rfl,iteF (go_next rfl ?_)⟩
   have S79:=S8.trans W9
   have S9:=S7.trans S79
   have hq9:=hq7.same S79
   clear perm pw d8 w9 up7 es7 h7 hq7
   obtain⟨y0,y9⟩:=mix_in (ns.getD (Int.toNat 2) 0+7 * (i:Int)) 9941 (m:=9) (by decide)
   refine⟨_,rfl,a,ns,2,rfl,by decide,S9.seq hs,_,rfl,_,_,rfl,rfl,.inl ⟨by decide,by decide⟩,_,_,rfl,rfl,_,9941,9,rfl,by decide,by decide,by decide,?_⟩
   obtain⟨mn,emn,mn9⟩:∃ mn:Nat,mixF (ns.getD (Int.toNat 2) 0+7 * (i:Int)) 9941 9=(mn:Int)/\mn<=8:=⟨(mixF (ns.getD (Int.toNat 2) 0+7 * (i:Int)) 9941 9).toNat,by omega,by omega⟩
   show gName 6 (V.int (mixF (ns.getD (Int.toNat 2) 0+7 * (i:Int)) 9941 9)) _ _ _
   rw[emn]
   clear emn y0 y9
   refine⟨_,rfl,(mn:Int),rfl,by omega,by omega,?_⟩
   refine for_src0 (src_range (H:=fun _=>none) 0 (Int.toNat (mn:Int))) (fun j σ H'=>Same H H'/\∃ Lj qj l,∃ z7:Option V,Lj.qu=L.qu/\Lj.dk=L.dk/\(∀ b,isQu Lj b->H b=none)/\QueueW A H' Lj qj false/\qj.hs=[]/\l.length=j/\Kz qj (mkEs due l) (due+(j:Int)) j (c+j)/\σ = [some (.ref a),some (.ref L.dk),some (.int due),some (.int (i:Int)),some (.ref p5),some (.ref L.qu),some (.int (mn:Int)),z7,z8]) ⟨S9,L,q7,[],_,rfl,rfl,fr7,hq9,hs7,rfl,?_,rfl⟩ (fun _ _ _ _ b o e=>by cases e) ?_ ?_
   ·rw[show due+((0:Nat):Int)=due by omega]
    exact kz7
   ·rintro j x σ H10 H11 hj ⟨S10,Lj,qj,l,z7',eqj,edj,frj,hqj,hsj,ll,kj,rfl⟩ s11 hx
    have hx:x = .int (0+(j:Int)):=hx
    rw[Int.zero_add]at hx
    subst hx
    rw[Int.toNat_natCast]at hj
    have S11:=S10.trans s11
    have hq11:=hqj.same s11
    obtain⟨dx11,h11⟩:=hq11.self
    rw[eqj]at h11
    have bok:bytesOk [(j:Int),(i:Int)]:=fun b hb=>by
     simp only[List.mem_cons,List.not_mem_nil,or_false]at hb
     rcases hb with y | y <;> rw[y] <;> omega
    have gd:bodyD (.tuple ([(j:Int),(i:Int)].map .int))=true:=row_ok (k:="put") (n:=0) (.inl rfl) (by decide) (by decide) bok (show 2<=60 by decide)
    have upj:qj.B.up=due+(j:Int):=by
     obtain⟨_,_,_,_,_,_,h4,_⟩:=kj
     rw[h4]
    have el:(mkEs due l).length=j:=by rw[mkEs_len]; exact ll
    obtain⟨wok,hfo,kz12⟩:=kj.put (by omega) (by omega) (es_lt (by rw[ll])) (by omega) (by omega) (by omega) bok (show 2<=10 by decide)
    refine⟨_,rfl,L.qu,dx11,_,rfl,h11,rfl,con_ev (ev_tup (ds:=[.int (j:Int),.int (i:Int)]) le_size (av_cons (ev_var rfl (by simp only[Den])) (av_cons (ev_var rfl (by simp only[Den])) av_nil))) fun v12 H12 S12 d12=>?_⟩
    refine⟨Lj,qj,v12,.tuple ([(j:Int),(i:Int)].map .int),by rw[eqj],hq11.same S12,d12,(fun bs e=>by injection e with e; rw[<- e]; show 2<=1000; decide),(fun y=>by rw[gd]at y; cases y),fun body e hb hl=>?_⟩
    have eb:body=[(j:Int),(i:Int)]:=by
     have:=congrArg intsOf e
     rw[ints_int,ints_int]at this
     exact this.symm
    subst eb
    refine⟨wok,by rw[upj]; omega,_,by rw[upj]; exact hfo,fun L13 H13 st13 hq13=>?_⟩
    obtain⟨S13,fr13⟩:=st13.keepS (S11.trans S12) frj
    refine⟨_,rfl,_,rfl,_,_,rfl,rfl,rfl,_,rfl,?_⟩
    show if (!decide (V.int qj.B.up=V.int (due+(j:Int))))=true then _ else _
    rw[decide_eq_true (show V.int qj.B.up=V.int (due+(j:Int)) by rw[upj])]
    refine iteF ?_
    refine⟨S13,L13,_,l++[([(j:Int),(i:Int)],(nextQ qj).last)],_,st13.qu.trans eqj,st13.dk.trans edj,fr13,hq13,?_,by rw[List.length_append,ll]; rfl,?_,rfl⟩
    ·exact(next_now qj).2.1.trans hsj
    ·rw[mkEs_app,ll,show due+((j+1:Nat):Int)=due+(j:Int)+1 by omega]
     exact kz12
   rintro σ H10 ⟨S10,Lj,qj,l,z7',eqj,edj,frj,hqj,hsj,ll,kj,rfl⟩
   rw[Int.toNat_natCast]at ll kj
   have upj:qj.B.up=due+(mn:Int):=by
    obtain⟨_,_,_,_,_,_,h4,_⟩:=kj
    rw[h4]
   have el:(mkEs due l).length=mn:=by rw[mkEs_len]; exact ll
   obtain⟨wok,hfo,kz12⟩:=kj.deal (by omega) (by omega) (es_lt (by rw[ll])) (by omega) (by omega) (by omega)
   obtain⟨dx10,h10⟩:=hqj.self
   rw[eqj]at h10
   have gall:bodiesD (.tuple (bodsD [[1],[2]]))=true:=by decide +kernel
   refine⟨_,rfl,L.qu,dx10,_,rfl,h10,rfl,con_ev (d:=.tuple [.tuple [.int 1],.tuple [.int 2]]) (ev_tup le_size (av_cons (ev_tup le_size (av_cons (ev_of ed_int) av_nil)) (av_cons (ev_tup le_size (av_cons (ev_of ed_int) av_nil)) av_nil))) fun v12 H12 S12 d12=>?_⟩
   refine⟨Lj,qj,v12,.tuple (bodsD [[1],[2]]),by rw[eqj],hqj.same S12,d12,fun ds e=>?_,(fun y=>by rw[gall]at y; cases y),fun bss e l1 l9 hb=>?_⟩
   ·injection e with e
    rw[<- e]
    refine⟨by decide,fun x hx bs e2=>?_⟩
    have hx:x∈[PyData.tuple [.int 1],.tuple [.int 2]]:=hx
    simp only[List.mem_cons,List.not_mem_nil,or_false]at hx
    rcases hx with y | y <;> rw[y]at e2 <;> injection e2 with e2 <;> rw[<- e2] <;> decide
   injection e with e
   have e:=(bods_inj e).symm
   subst e
   refine⟨wok,by rw[upj]; show due+(mn:Int)+2<=1000000; omega,_,hfo,fun p13 L13 H13 st13 hq13 np13 g13=>?_⟩
   obtain⟨S13,fr13⟩:=st13.keepS (S10.trans S12) frj
   refine⟨_,rfl,_,rfl,_,_,rfl,rfl,_,rfl,_,rfl,_,_,rfl,rfl,_,_,rfl,rfl,le_size,fun p14 hp14=>?_⟩
   have W14:=same_upd (o:=.lst [.int (due+(mn:Int)),.int (due+(mn:Int)+1)]) hp14
   have w14:upd H13 p14 (.lst [.int (due+(mn:Int)),.int (due+(mn:Int)+1)]) p14=some (.lst [.int (due+(mn:Int)),.int (due+(mn:Int)+1)]):=upd_same
   generalize upd H13 p14 (.lst [.int (due+(mn:Int)),.int (due+(mn:Int)+1)])=H14 at W14 w14 ⊢
   have g13:H13 p13=some (.lst ([due+(mn:Int),due+(mn:Int)+1].map V.int)):=by
    rw[g13,upj]
    show some (HO.lst [V.int (due+(mn:Int)+((0:Nat):Int)),V.int (due+(mn:Int)+((1:Nat):Int))])=_
    rw[show due+(mn:Int)+((0:Nat):Int)=due+(mn:Int) by omega]
    rfl
   refine ne_ints (W14 _ _ g13) w14 ⟨_,rfl,iteF (go_next rfl ?_)⟩
   have S14:=S13.trans W14
   have hq14:=hq13.same W14
   have hs14:(allQ qj [[1],[2]] ⟨mkEs due l++mkEs (due+(mn:Int)) [([1],(nextQ qj).last),([2],(nextQ qj).last)],due+(mn:Int)+2,[]⟩).hs=[]:=(next_now qj).2.1.trans hsj
   obtain⟨l2,el2⟩:∃ l2,l2=l++[([1],(nextQ qj).last),([2],(nextQ qj).last)]:=⟨_,rfl⟩
   have ll2:l2.length=mn+2:=by
    rw[el2,List.length_append,ll]
    rfl
   have ees:mkEs due l++mkEs (due+(mn:Int)) [([1],(nextQ qj).last),([2],(nextQ qj).last)]=mkEs due l2:=by rw[el2,mkEs_app,ll]
   rw[ees]at kz12 hq14 hs14
   generalize allQ qj [[1],[2]] ⟨mkEs due l2,due+(mn:Int)+2,[]⟩=q14 at kz12 hq14 hs14
   have qu13:L13.qu=L.qu:=st13.qu.trans eqj
   have dk13:L13.dk=L.dk:=st13.dk.trans edj
   clear hq13 g13 w14 wok hfo gall d12 kj hqj hsj ees el2 el h10 st13 np13 upj
   refine⟨_,rfl,_,rfl,_,_,rfl,rfl,_,_,rfl,rfl,?_⟩
   show gName 2 (V.int (due+(mn:Int)+2)) _ _ _
   obtain⟨up,eup⟩:∃ up,up=due+(mn:Int)+2:=⟨_,rfl⟩
   rw[<- eup]at kz12 ⊢
   have du:due+(l2.length:Int)=up:=by rw[ll2]; omega
   have c3:c<=90:=by omega
   have up9:up<=100:=by omega
   have up10:up<=10 * ((i:Int)+1):=by omega
   have up0:0<=up:=by omega
   clear eup
   obtain⟨dx14,h14⟩:=hq14.self
   rw[qu13]at h14
   obtain⟨σ0,eσ⟩:∃ σ0:List (Option V),σ0=[some (.ref a),some (.ref L.dk),some (.int up),some (.int (i:Int)),some (.ref p5),some (.ref L.qu),some (.int (mn:Int)),z7']:=⟨_,rfl⟩
   have tk:=fun Q E=>take_W (A:=A) (Q:=Q) (E:=E) (σ0:=σ0) hq14 S14 fr13 qu13 dk13 (c0:=c) (by rw[<- Nat.add_assoc] ; exact kz12) hs14 du0 du (by omega) (by omega) (by omega) (by omega)
   rw[qu13]at tk
   refine⟨_,rfl,L.qu,dx14,_,rfl,h14,rfl,con_go (tk _ _ fun v15 H15 w15=>?_)⟩
   clear tk
   subst eσ
   refine⟨Wz A H L up c [some (.ref a),some (.ref L.dk),some (.int up),some (.int (i:Int)),some (.ref p5),some (.ref L.qu),some (.int (mn:Int)),z7'],⟨_,w15⟩,?_⟩
   rintro cnt σ H16 ⟨S16,Lw,qw,tv,eqw,edw,frw,hqw,rfl,hcase⟩
   refine⟨_,rfl,rfl,_,rfl,?_⟩
   rcases hcase with ⟨rfl,rfl,hsw,kk,kk9,kzw⟩ | ⟨n,b,s,l',p,pb,tm,kk,rfl,rfl,gp,hsw,n0,hn,l9,kkl,kzw⟩
   ·rw[decide_eq_true rfl]
    refine iteF ?_
    have x0:=Int.emod_nonneg (ns.getD (Int.toNat 3) 0) (show (3:Int)≠0 by decide)
    have x1:=Int.emod_lt_of_pos (ns.getD (Int.toNat 3) 0) (show (0:Int)<3 by decide)
    refine⟨_,rfl,a,ns,3,rfl,by decide,S16.seq hs,_,_,rfl,rfl,(by show (0:Int)<3; decide),ns.getD (Int.toNat 3) 0 % 3,rfl,by omega,by omega,?_⟩
    have esz:∀ {q':Qs},Kz q' [] up kk (c+kk)->q'.B.es=[]/\q'.B.up=up:=fun k1=>by
     obtain⟨_,_,_,_,_,_,h4,_⟩:=k1
     rw[h4]
     exact⟨rfl,rfl⟩
    refine for_src0 (src_range (H:=fun _=>none) 0 (ns.getD (Int.toNat 3) 0 % 3).toNat) (fun _ σ H'=>Same H H'/\∃ (Lc:Pl) (qc:Qs) (z7:Option V),Lc.qu=L.qu/\Lc.dk=L.dk/\(∀ b,isQu Lc b->H b=none)/\QueueW A H' Lc qc false/\qc.hs=[]/\Kz qc [] up kk (c+kk)/\σ = [some (.ref a),some (.ref L.dk),some (.int up),some (.int (i:Int)),some (.ref p5),some (.ref L.qu),some (.int (mn:Int)),z7,some .non]) ⟨S16,Lw,qw,_,eqw,edw,frw,hqw,hsw,kzw,rfl⟩ (fun _ _ _ _ b o e=>by cases e) ?_ ?_
    ·rintro j x σ H17 H18 hj ⟨S17,Lc,qc,z7c,eqc,edc,frc,hqc,hsc,kzc,rfl⟩ s18 hx
     have S18:=S17.trans s18
     have hq18:=hqc.same s18
     obtain⟨dx18,h18⟩:=hq18.self
     rw[eqc]at h18
     obtain⟨e1,e2,e3⟩:=kzc.ends (by omega)
     refine⟨_,rfl,L.qu,dx18,_,rfl,h18,rfl,Lc,qc,by rw[eqc],hq18,(esz kzc).1,fun _=>?_,fun ne=>?_⟩
     ·exact⟨S18,Lc,qc,_,eqc,edc,frc,hq18,hsc,kzc,rfl⟩
     ·obtain⟨l1,l2,l3,l4⟩:=e2 (by omega)
      refine⟨l1,l2,l3,fun L19 H19 st19 hq19=>?_⟩
      obtain⟨S19,fr19⟩:=st19.keepS S18 frc
      exact⟨S19,L19,dropF qc,_,st19.qu.trans eqc,st19.dk.trans edc,fr19,hq19,hsc,l4,rfl⟩
    rintro σ H17 ⟨S17,Lc,qc,z7c,eqc,edc,frc,hqc,hsc,kzc,rfl⟩
    obtain⟨dx17,h17⟩:=hqc.self
    rw[eqc]at h17
    refine⟨_,rfl,L.qu,dx17,_,rfl,h17,rfl,Lc,qc,fun q'=>Kz q' [] up kk (c+kk)/\q'.hs=[],by rw[eqc],hqc,⟨kzc,hsc⟩,fun q' ⟨k1,k2⟩=>?_,fun L18 q18 H18 n18 st18 hq18 ⟨k1,k2⟩ efl=>?_⟩
    ·obtain⟨e1,e2,e3⟩:=k1.ends (by omega)
     refine⟨(esz k1).1,e1,fun lt=>?_⟩
     obtain⟨l1,l2,l3,l4⟩:=e2 lt
     exact⟨l1,l2,l3,l4,k2⟩
    obtain⟨S18,fr18⟩:=st18.keepS S17 frc
    obtain⟨k0,n1,nk,keys⟩:=(k1.ends (by omega)).2.2 efl
    have qu18:L18.qu=L.qu:=st18.qu.trans eqc
    have dk18:L18.dk=L.dk:=st18.dk.trans edc
    obtain⟨dx18,h18⟩:=hq18.self
    rw[qu18]at h18
    refine⟨_,rfl,L.qu,dx18,_,rfl,h18,rfl,L18,q18,[n1],by rw[qu18],hq18,keys,(fun n hn=>by rw[List.mem_singleton.mp hn]; exact nk),(show 1<64 by decide),fun ms perm pw=>?_⟩
    have ems:ms=[n1]:=List.perm_singleton.mp perm
    subst ems
    refine⟨.inr (by show n1 - n1+1=1; omega),fun p19 H19 S19 g19=>?_⟩
    refine⟨p19,_,rfl,.inl (SqL.of g19),rfl,_,rfl,?_⟩
    show if (!decide (V.int (((1:Nat):Int))=V.int 1))=true then _ else _
    rw[decide_eq_true (show V.int (((1:Nat):Int))=V.int 1 from rfl)]
    refine iteF ?_
    have hq19:=hq18.same S19
    obtain⟨dx19,h19⟩:=hq19.self
    rw[qu18]at h19
    refine⟨_,rfl,L.qu,dx19,_,rfl,h19,rfl,L18,q18,by rw[qu18],hq19,_,rfl,rfl,_,rfl,?_⟩
    rw[decide_eq_true (show V.int q18.B.up=V.int up by rw[(esz k1).2])]
    refine iteF ?_
    have hdk:=hq19.disk
    rw[dk18]at hdk
    refine⟨S18.trans S19,L18.df,L18.kvs,q18.D,up,c+kk,_,_,_,_,_,_,fun b hb=>fr18 b (.inr (.inr (.inr (by show own L18.dk L18.df L18.kvs b; rw[dk18]; exact hb)))),hdk,up0,by rw[show ((i+1:Nat):Int)=(i:Int)+1 by omega]; exact up10,by omega,k0.dz (by omega) hdk.kn,fun _=>⟨q18,rfl,k0⟩,rfl⟩
   ·rw[decide_eq_false (fun y=>by cases y)]
    refine iteT ⟨fun σ' H'=>∃ m',m'<l'.length+1/\Wz A H L up c [some (.ref a),some (.ref L.dk),some (.int up),some (.int (i:Int)),some (.ref p5),some (.ref L.qu),some (.int (mn:Int)),z7'] m' σ' H',fun σ' H' h=>h,?_⟩
    have hr:∀ p∈mkEs (n+1) l',p.1≠n:=fun p hp=>by
     have:p.1∈(mkEs (n+1) l').map (·.1):=List.mem_map_of_mem hp
     rw[mkEs_keys,mem_nums]at this
     omega
    obtain⟨wok,hfo,kzd⟩:=kzw.done (by omega) (by omega) hr n0 (by omega) (by rw[mkEs_len]; omega) (by omega)
    obtain⟨dxw,hw⟩:=hqw.self
    rw[eqw]at hw
    refine⟨_,rfl,L.qu,dxw,_,rfl,hw,rfl,_,rfl,p,_,_,.int n,rfl,rfl,SqT.of gp,atI_pos (by decide) rfl,Lw,qw,"a",n,tm,_,by rw[eqw],hqw,hand_a.1,hand_a.2,n0,by omega,?_,wok,hfo,fun L17 H17 st17 hq17=>?_⟩
    ·rw[hsw]
     unfold lookH
     rw[List.find?_cons,decide_eq_true rfl]
     rfl
    obtain⟨S17,fr17⟩:=st17.keepS S16 frw
    have hs17:(doneQ qw n ⟨mkEs (n+1) l',up,[]⟩).hs=[]:=by
     show dropH qw.hs n=[]
     rw[hsw]
     unfold dropH
     rw[List.filter_cons,if_neg (by simp)]
     rfl
    have qu17:L17.qu=L.qu:=st17.qu.trans eqw
    obtain⟨dx17,h17⟩:=hq17.self
    rw[qu17]at h17
    have tk:=fun Q E=>take_W (A:=A) (Q:=Q) (E:=E) (σ0:=[some (.ref a),some (.ref L.dk),some (.int up),some (.int (i:Int)),some (.ref p5),some (.ref L.qu),some (.int (mn:Int)),z7']) hq17 S17 fr17 qu17 (st17.dk.trans edw) (c0:=c) (by rw[<- Nat.add_assoc] ; exact kzd) hs17 (by omega) hn (by omega) (by omega) (by omega) (by omega)
    rw[qu17]at tk
    refine⟨_,rfl,L.qu,dx17,_,rfl,h17,rfl,con_go (tk _ _ fun v18 H18 w18=>?_)⟩
    exact⟨_,Nat.lt_succ_self _,w18⟩
  rintro σ H3 ⟨S3,dfi,kvs,D,due,c,z3,z4,z5,z6,z7,z8,fri,hDi,du0,du9,cc,dz,hq0,rfl⟩
  obtain⟨q0,eD,k0⟩:=hq0 (by omega)
  subst eD
  obtain⟨o1,o2,o3⟩:=k0.one (by omega)
  refine⟨_,rfl,dk,dfi,kvs,q0.D,rfl,hDi,o1,o2,o3,fun msd permd dk2 df2 kvs2 d2 H4 S4 fr4 hD4=>?_⟩
  obtain⟨nn,mm,dg,iq⟩:=k0.copy (by omega) permd d2
  obtain⟨i1,i2,_,i4⟩:=iq 9 9 9
  refine⟨le_size,fun p5 hp5=>?_⟩
  have W5:=same_upd (o:=.tup [.int 9,.int 9,.int 9]) hp5
  have w5:upd H4 p5 (.tup [.int 9,.int 9,.int 9]) p5=some (.tup [.int 9,.int 9,.int 9]):=upd_same
  generalize upd H4 p5 (.tup [.int 9,.int 9,.int 9])=H5 at W5 w5 ⊢
  refine nil_go ⟨dk2,df2,p5,kvs2,_,nn,mm,_,9,9,9,rfl,w5,by decide,by decide,by decide,by decide,by decide,by decide,hD4.same W5,dg,fun La H6 eLa f6 w6 hqa=>?_⟩
  generalize initQ ⟨tabF q0.D.fs msd,d2,none⟩ mm q0.B 9 9 9=qa at hqa i1 i2 i4
  obtain⟨dxa,ha⟩:=hqa.self
  have gd:bodyD (.tuple (([]:List Int).map .int))=true:=by decide +kernel
  have nb:=(next_now qa).2.2.2
  refine⟨La.qu,dxa,_,rfl,ha,rfl,con_ev (d:=.tuple []) (ev_tup le_size av_nil) fun v7 H7 S7 d7=>?_⟩
  refine⟨La,qa,v7,.tuple (([]:List Int).map .int),rfl,hqa.same S7,d7,(fun bs e=>by injection e with e; rw[<- e]; show 0<=1000; decide),(fun y=>by rw[gd]at y; cases y),fun body e hb hl=>?_⟩
  refine⟨i4,by rw[i2]; show due<=999999; omega,_,by rw[nb,i2]; exact gen_put _ body rfl (fun p hp=>by cases hp) rfl,fun L8 H8 st8 hq8=>?_⟩
  refine⟨_,rfl,rfl,?_⟩
  rw[decide_eq_true (show V.int qa.B.up=V.int due by rw[i2])]
  exact q _
end
end Qh
end
section
namespace Qh
open PySem L2
structure DefIn (K:PySem.W.Frag) (x:Str) (st:Stmt):Prop where
 ex:∃ (f:Addr) (oc:Value) (od:Option Addr) (kV doc pm:Value) (an:Option Addr) (cdv ct:Value) (osl:Array (Option Value)),PySem.W.nsIn K mainGlobals x=some (some (.ref f))/\
  K.lookup f=some ⟨oc,od,.func (PySem.W.fnOf x x (defArgs st) (defBody st) (defScope st) .none kV doc pm an cdv ct),osl⟩/\PySem.W.codeIn K cdv x=true/\PySem.W.keepIn K (.ref f)=true
theorem defIn_mk {K:PySem.W.Frag} {x:Str} {st:Stmt} {f:Addr} {oc:Value} {od an:Option Addr} {osl:Array (Option Value)} {kV doc pm cdv ct:Value} (a:PySem.W.nsIn K mainGlobals x=some (some (.ref f)))
  (l:K.lookup f=some ⟨oc,od,.func (PySem.W.fnOf x x (defArgs st) (defBody st) (defScope st) .none kV doc pm an cdv ct),osl⟩) (c:PySem.W.codeIn K cdv x=true) (k:PySem.W.keepIn K (.ref f)=true):DefIn K x st:=⟨⟨f,oc,od,kV,doc,pm,an,cdv,ct,osl,a,l,c,k⟩⟩
theorem DefIn.get {K:PySem.W.Frag} {h:Heap} {mg:Str->Option Value} {x:Str} {st:Stmt} (X:K.In h) (G:h.Ns mainGlobals mg) (D:DefIn K x st):∃ f fd,Fun K x x st f fd/\mg x=some (.ref f)/\PySem.W.keepIn K (.ref f)=true:=by
 obtain⟨f,oc,od,kV,doc,pm,an,cdv,ct,osl,a,l,c,k⟩:=D.ex
 exact⟨f,_,fun_mk l c k,PySem.W.mg_of X G a,k⟩
def strsAre:List Str->List Value->Bool
 | [],[]=>true
 | k::ks,.str x _::vs=>decide (x=k) && strsAre ks vs
 | _,_=>false
theorem strsAre_vals:∀ {ks:List Str} {vs:List Value},strsAre ks vs=true->Vals (ks.map V.str) vs
 | [],[],_=>.nil
 | k::ks,.str x t::vs,h=>by
  simp only[strsAre,Bool.and_eq_true,decide_eq_true_eq]at h
  obtain⟨h1,h2⟩:=h
  subst h1
  exact .cons ⟨t,rfl⟩ (strsAre_vals h2)
def kindsIn (K:PySem.W.Frag) (a:Addr):Bool:=match K.lookup a with
 | some ⟨.type t,none,.seq its n,_⟩=>decide (t = "tuple") && (decide (its.size<=100) && strsAre kinds its.toList)
 | _=>false
theorem kindsIn_ok {K:PySem.W.Frag} {a:Addr} (h:kindsIn K a=true):(∀ H,SqT K H a (kinds.map V.str))/\∃ o,K.lookup a=some o/\o.cls = .type "tuple"/\o.dict=none:=by
 unfold kindsIn at h
 split at h
 ·next t its n sl e=>
  simp only[Bool.and_eq_true,decide_eq_true_eq]at h
  obtain⟨h1,h2,h3⟩:=h
  subst h1
  exact⟨fun H=>.inr ⟨_,its,n,e,rfl,rfl,le_size h2,strsAre_vals h3⟩,_,e,rfl,rfl⟩
 ·cases h
structure MethIn (K:PySem.W.Frag) (C:Addr) (x qual:Str) (st:Stmt):Prop where
 ex:∃ (f:Addr) (oc:Value) (od:Option Addr) (kV doc pm:Value) (an:Option Addr) (cdv ct:Value) (osl:Array (Option Value)),PySem.W.findIn K (.ref C) x=some (some (.ref f))/\PySem.W.isFn K (.ref f)=true/\
  K.lookup f=some ⟨oc,od,.func (PySem.W.fnOf x qual (defArgs st) (defBody st) (defScope st) .none kV doc pm an cdv ct),osl⟩/\PySem.W.codeIn K cdv qual=true/\PySem.W.keepIn K (.ref f)=true
theorem methIn_mk {K:PySem.W.Frag} {C:Addr} {x qual:Str} {st:Stmt} {f:Addr} {oc:Value} {od an:Option Addr} {osl:Array (Option Value)} {kV doc pm cdv ct:Value} (a:PySem.W.findIn K (.ref C) x=some (some (.ref f))) (i:PySem.W.isFn K (.ref f)=true)
  (l:K.lookup f=some ⟨oc,od,.func (PySem.W.fnOf x qual (defArgs st) (defBody st) (defScope st) .none kV doc pm an cdv ct),osl⟩) (c:PySem.W.codeIn K cdv qual=true) (k:PySem.W.keepIn K (.ref f)=true):MethIn K C x qual st:=⟨⟨f,oc,od,kV,doc,pm,an,cdv,ct,osl,a,i,l,c,k⟩⟩
theorem MethIn.get {K:PySem.W.Frag} {C:Addr} {x qual:Str} {st:Stmt} (D:MethIn K C x qual st):∃ f fd,Fun K x qual st f fd/\PySem.W.findIn K (.ref C) x=some (some (.ref f))/\PySem.W.isFn K (.ref f)=true/\PySem.W.keepIn K (.ref f)=true:=by
 obtain⟨f,oc,od,kV,doc,pm,an,cdv,ct,osl,a,i,l,c,k⟩:=D.ex
 exact⟨f,_,fun_mk l c k,a,i,k⟩
end Qh
end
section
namespace Qh
open PySem L2
set_option maxHeartbeats 4000000 in
theorem law_mk {l:PySem.W.OpenLaw} {w:World} {K:PySem.W.Frag} {h:Heap} {mg:Str->Option Value} {fa fL a_KINDS C_BadName C_Missing C_There C_Stopped C_Broken C_BadRow C_BadSettings C_BadBody C_BadHand C_BadNumber C_NotHeld C_Disk C_Queue C_Book:Addr} (X:K.In h) (G:h.Ns mainGlobals mg) (hfa:mg "law" = some (.ref fa))
  {odL anL:Option Addr} {slL:Array (Option Value)} {ocL kVL dcL pmL cdL ctL:Value} {t0 t1 t2 t3 t4 t5 t6 t7 t8 t9 t10 t11 t12 t13 t14:Tok}
  (d_is_number:DefIn K "is_number" s_is_number)
  (d_check_steps:DefIn K "check_steps" s_check_steps)
  (d_segment_name:DefIn K "segment_name" s_segment_name)
  (d_segment_of:DefIn K "segment_of" s_segment_of)
  (d_segments_on:DefIn K "segments_on" s_segments_on)
  (d_is_word:DefIn K "is_word" s_is_word)
  (d_check_name:DefIn K "check_name" s_check_name)
  (d_is_bytes:DefIn K "is_bytes" s_is_bytes)
  (d_fits_kind:DefIn K "fits_kind" s_fits_kind)
  (d_is_row:DefIn K "is_row" s_is_row)
  (d_check_body:DefIn K "check_body" s_check_body)
  (d_checks_of:DefIn K "checks_of" s_checks_of)
  (d_row_bytes:DefIn K "row_bytes" s_row_bytes)
  (d_row_end:DefIn K "row_end" s_row_end)
  (d_row_from:DefIn K "row_from" s_row_from)
  (d_rows_in:DefIn K "rows_in" s_rows_in)
  (d_without_last_parts:DefIn K "without_last_parts" s_without)
  (d_make_good:DefIn K "make_good" s_make_good)
  (d_check_bodies:DefIn K "check_bodies" s_check_bodies)
  (d_check_hand:DefIn K "check_hand" s_check_hand)
  (d__law_cell:DefIn K "_law_cell" s_cell)
  (d__law_mix:DefIn K "_law_mix" s_mix)
  (d_check_settings:DefIn K "check_settings" s_check_settings)
  (d_rows_of:DefIn K "rows_of" s_rows_of)
  (d_book_of:DefIn K "book_of" s_book_of)
  (d__law_queue:DefIn K "_law_queue" s_lqueue)
  (d__law_copy:DefIn K "_law_copy" s_copy)
  (b_Disk:PySem.W.nsIn K mainGlobals "Disk" = some (some (.ref C_Disk))) (pg_Disk:PySem.W.plainGet K C_Disk Str.empty=true) (hd_Disk:PySem.W.hasDictIn K C_Disk=true) (po_Disk:PySem.W.plainOver K C_Disk=true) (sa_Disk:PySem.W.findIn K (.ref C_Disk) "__setattr__" = some (some (.builtin "object.__setattr__"))) (mk_Disk:PySem.W.makesIn K C_Disk=true) (kc_Disk:PySem.W.keepIn K (.ref C_Disk)=true)
  (n_Disk_files:PySem.W.findIn K (.ref C_Disk) "files" = some none)
  (n_Disk_steps_done:PySem.W.findIn K (.ref C_Disk) "steps_done" = some none)
  (n_Disk_steps_ahead:PySem.W.findIn K (.ref C_Disk) "steps_ahead" = some none)
  (e_Disk___init__:MethIn K C_Disk "__init__" "Disk.__init__" s_dinit)
  (e_Disk_names:MethIn K C_Disk "names" "Disk.names" s_names)
  (e_Disk_check_file:MethIn K C_Disk "check_file" "Disk.check_file" s_check_file)
  (e_Disk_size:MethIn K C_Disk "size" "Disk.size" s_size)
  (e_Disk_read:MethIn K C_Disk "read" "Disk.read" s_read)
  (e_Disk_count_step:MethIn K C_Disk "count_step" "Disk.count_step" s_count_step)
  (e_Disk_make:MethIn K C_Disk "make" "Disk.make" s_make)
  (e_Disk_drop:MethIn K C_Disk "drop" "Disk.drop" s_drop)
  (e_Disk_cut:MethIn K C_Disk "cut" "Disk.cut" s_cut)
  (e_Disk_add:MethIn K C_Disk "add" "Disk.add" s_add)
  (b_Queue:PySem.W.nsIn K mainGlobals "Queue" = some (some (.ref C_Queue))) (pg_Queue:PySem.W.plainGet K C_Queue Str.empty=true) (hd_Queue:PySem.W.hasDictIn K C_Queue=true) (po_Queue:PySem.W.plainOver K C_Queue=true) (sa_Queue:PySem.W.findIn K (.ref C_Queue) "__setattr__" = some (some (.builtin "object.__setattr__"))) (mk_Queue:PySem.W.makesIn K C_Queue=true) (kc_Queue:PySem.W.keepIn K (.ref C_Queue)=true)
  (n_Queue_disk:PySem.W.findIn K (.ref C_Queue) "disk" = some none)
  (n_Queue_most:PySem.W.findIn K (.ref C_Queue) "most" = some none)
  (n_Queue_hold:PySem.W.findIn K (.ref C_Queue) "hold" = some none)
  (n_Queue_tries:PySem.W.findIn K (.ref C_Queue) "tries" = some none)
  (n_Queue_book:PySem.W.findIn K (.ref C_Queue) "book" = some none)
  (n_Queue_first:PySem.W.findIn K (.ref C_Queue) "first" = some none)
  (n_Queue_last:PySem.W.findIn K (.ref C_Queue) "last" = some none)
  (n_Queue_writing:PySem.W.findIn K (.ref C_Queue) "writing" = some none)
  (n_Queue_holders:PySem.W.findIn K (.ref C_Queue) "holders" = some none)
  (n_Queue_now:PySem.W.findIn K (.ref C_Queue) "now" = some none)
  (e_Queue_sizes:MethIn K C_Queue "sizes" "Queue.sizes" s_q_sizes)
  (e_Queue_letters:MethIn K C_Queue "letters" "Queue.letters" s_q_letters)
  (e_Queue_coming:MethIn K C_Queue "coming" "Queue.coming" s_q_coming)
  (e_Queue_is_last_full:MethIn K C_Queue "is_last_full" "Queue.is_last_full" s_q_full)
  (e_Queue_begin_segment:MethIn K C_Queue "begin_segment" "Queue.begin_segment" s_q_begin)
  (e_Queue_write:MethIn K C_Queue "write" "Queue.write" s_q_write)
  (e_Queue_put:MethIn K C_Queue "put" "Queue.put" s_q_put)
  (e_Queue_put_all:MethIn K C_Queue "put_all" "Queue.put_all" s_q_putall)
  (e_Queue_free_letters:MethIn K C_Queue "free_letters" "Queue.free_letters" s_q_free)
  (e_Queue_ready:MethIn K C_Queue "ready" "Queue.ready" s_q_ready)
  (e_Queue_take:MethIn K C_Queue "take" "Queue.take" s_q_take)
  (e_Queue_check_held:MethIn K C_Queue "check_held" "Queue.check_held" s_q_check)
  (e_Queue_done:MethIn K C_Queue "done" "Queue.done" s_q_done)
  (e_Queue_drop_first:MethIn K C_Queue "drop_first" "Queue.drop_first" s_q_dropf)
  (e_Queue_carry:MethIn K C_Queue "carry" "Queue.carry" s_q_carry)
  (e_Queue_sweep:MethIn K C_Queue "sweep" "Queue.sweep" s_q_sweep)
  (e_Queue___init__:MethIn K C_Queue "__init__" "Queue.__init__" s_q_init)
  (b_Book:PySem.W.nsIn K mainGlobals "Book" = some (some (.ref C_Book))) (pg_Book:PySem.W.plainGet K C_Book Str.empty=true) (hd_Book:PySem.W.hasDictIn K C_Book=true) (po_Book:PySem.W.plainOver K C_Book=true) (sa_Book:PySem.W.findIn K (.ref C_Book) "__setattr__" = some (some (.builtin "object.__setattr__"))) (mk_Book:PySem.W.makesIn K C_Book=true) (kc_Book:PySem.W.keepIn K (.ref C_Book)=true)
  (n_Book_entries:PySem.W.findIn K (.ref C_Book) "entries" = some none)
  (n_Book_upcoming:PySem.W.findIn K (.ref C_Book) "upcoming" = some none)
  (n_Book_parts:PySem.W.findIn K (.ref C_Book) "parts" = some none)
  (e_Book_letter:MethIn K C_Book "letter" "Book.letter" s_letter)
  (e_Book_letters:MethIn K C_Book "letters" "Book.letters" s_letters)
  (e_Book_enter_put:MethIn K C_Book "enter_put" "Book.enter_put" s_enter_put)
  (e_Book_enter_deal:MethIn K C_Book "enter_deal" "Book.enter_deal" s_enter_deal)
  (e_Book_change_entry:MethIn K C_Book "change_entry" "Book.change_entry" s_change)
  (e_Book_enter:MethIn K C_Book "enter" "Book.enter" s_enter)
  (e_Book_numbers_in:MethIn K C_Book "numbers_in" "Book.numbers_in" s_b_numbers)
  (e_Book___init__:MethIn K C_Book "__init__" "Book.__init__" s_init)
  (aL:PySem.W.nsIn K mainGlobals "law" = some (some (.ref fL))) (lL:K.lookup fL=some ⟨ocL,odL,.func (PySem.W.fnOf "law" "law" (defArgs s_law) (defBody s_law) (defScope s_law) .none kVL dcL pmL anL cdL ctL),slL⟩) (cL:PySem.W.codeIn K cdL "law" = true) (kL:PySem.W.keepIn K (.ref fL)=true)
  (z_len:PySem.W.nsIn K mainGlobals "len" = some none)
  (z_isinstance:PySem.W.nsIn K mainGlobals "isinstance" = some none)
  (z_all:PySem.W.nsIn K mainGlobals "all" = some none)
  (z_sum:PySem.W.nsIn K mainGlobals "sum" = some none)
  (z_tuple:PySem.W.nsIn K mainGlobals "tuple" = some none)
  (z_int:PySem.W.nsIn K mainGlobals "int" = some none)
  (z_bool:PySem.W.nsIn K mainGlobals "bool" = some none)
  (z_str:PySem.W.nsIn K mainGlobals "str" = some none)
  (z_range:PySem.W.nsIn K mainGlobals "range" = some none)
  (z_enumerate:PySem.W.nsIn K mainGlobals "enumerate" = some none)
  (z_list:PySem.W.nsIn K mainGlobals "list" = some none)
  (z_max:PySem.W.nsIn K mainGlobals "max" = some none)
  (z_min:PySem.W.nsIn K mainGlobals "min" = some none)
  (z_sorted:PySem.W.nsIn K mainGlobals "sorted" = some none)
  (v_HIGHEST_BYTE:PySem.W.nsIn K mainGlobals "HIGHEST_BYTE" = some (some (.int 255 t0)))
  (v_HIGHEST_NUMBER:PySem.W.nsIn K mainGlobals "HIGHEST_NUMBER" = some (some (.int 999999 t1)))
  (v_LONGEST_BODY:PySem.W.nsIn K mainGlobals "LONGEST_BODY" = some (some (.int 60 t2)))
  (v_HIGHEST_TIMES:PySem.W.nsIn K mainGlobals "HIGHEST_TIMES" = some (some (.int 9 t3)))
  (v_LARGEST_DEAL:PySem.W.nsIn K mainGlobals "LARGEST_DEAL" = some (some (.int 9 t4)))
  (v_CHECKS_SIZE:PySem.W.nsIn K mainGlobals "CHECKS_SIZE" = some (some (.int 2 t5)))
  (v_HEAD_SIZE:PySem.W.nsIn K mainGlobals "HEAD_SIZE" = some (some (.int 7 t6)))
  (v_LARGEST_MOST:PySem.W.nsIn K mainGlobals "LARGEST_MOST" = some (some (.int 2000 t7)))
  (v_LONGEST_HOLD:PySem.W.nsIn K mainGlobals "LONGEST_HOLD" = some (some (.int 99 t8)))
  (v_HIGHEST_TRIES:PySem.W.nsIn K mainGlobals "HIGHEST_TRIES" = some (some (.int 9 t9)))
  (v_LONGEST_HAND:PySem.W.nsIn K mainGlobals "LONGEST_HAND" = some (some (.int 6 t10)))
  (v_LONGEST_NAME:PySem.W.nsIn K mainGlobals "LONGEST_NAME" = some (some (.int 8 t11)))
  (v_MOST_STEPS:PySem.W.nsIn K mainGlobals "MOST_STEPS" = some (some (.int 100000 t12)))
  (v_NAME_SIGNS:PySem.W.nsIn K mainGlobals "NAME_SIGNS" = some (some (.str signs36 t13)))
  (v_HAND_SIGNS:PySem.W.nsIn K mainGlobals "HAND_SIGNS" = some (some (.str "abcdefghijklmnopqrstuvwxyz" t14)))
  (aK:PySem.W.nsIn K mainGlobals "KINDS" = some (some (.ref a_KINDS))) (qK:kindsIn K a_KINDS=true)
  (a_BadName:PySem.W.nsIn K mainGlobals "BadName" = some (some (.ref C_BadName))) (x_BadName:excIn K C_BadName=true)
  (a_Missing:PySem.W.nsIn K mainGlobals "Missing" = some (some (.ref C_Missing))) (x_Missing:excIn K C_Missing=true)
  (a_There:PySem.W.nsIn K mainGlobals "There" = some (some (.ref C_There))) (x_There:excIn K C_There=true)
  (a_Stopped:PySem.W.nsIn K mainGlobals "Stopped" = some (some (.ref C_Stopped))) (x_Stopped:excIn K C_Stopped=true)
  (a_Broken:PySem.W.nsIn K mainGlobals "Broken" = some (some (.ref C_Broken))) (x_Broken:excIn K C_Broken=true)
  (a_BadRow:PySem.W.nsIn K mainGlobals "BadRow" = some (some (.ref C_BadRow))) (x_BadRow:excIn K C_BadRow=true)
  (a_BadSettings:PySem.W.nsIn K mainGlobals "BadSettings" = some (some (.ref C_BadSettings))) (x_BadSettings:excIn K C_BadSettings=true)
  (a_BadBody:PySem.W.nsIn K mainGlobals "BadBody" = some (some (.ref C_BadBody))) (x_BadBody:excIn K C_BadBody=true)
  (a_BadHand:PySem.W.nsIn K mainGlobals "BadHand" = some (some (.ref C_BadHand))) (x_BadHand:excIn K C_BadHand=true)
  (a_BadNumber:PySem.W.nsIn K mainGlobals "BadNumber" = some (some (.ref C_BadNumber))) (x_BadNumber:excIn K C_BadNumber=true)
  (a_NotHeld:PySem.W.nsIn K mainGlobals "NotHeld" = some (some (.ref C_NotHeld))) (x_NotHeld:excIn K C_NotHeld=true)
  : ∃ fd:FuncData,(∀ (s:Shared) (v:Value),BindsTo s fd ⟨[v],[]⟩ [("_law_script",v)])/\∀ base:Heap,K.In base->base.Ns mainGlobals mg->FnOk l.prog w K mg base (CXE l.prog w) 11 fa fd ["_law_script"] (sp_law K):=by
 have e:=hfa.symm.trans (PySem.W.mg_of X G aL)
 cases e
 obtain⟨kk1,kk2⟩:=kindsIn_ok qK
 have TK:TxtK K mg a_KINDS C_BadRow C_Broken C_Book:=⟨⟨PySem.W.mg_none_of X G z_len,PySem.W.mg_none_of X G z_isinstance,PySem.W.mg_none_of X G z_all,PySem.W.mg_none_of X G z_sum,PySem.W.mg_none_of X G z_tuple,PySem.W.mg_none_of X G z_int,PySem.W.mg_none_of X G z_bool,PySem.W.mg_none_of X G z_str,PySem.W.mg_none_of X G z_range,PySem.W.mg_none_of X G z_enumerate,⟨_,PySem.W.mg_of X G v_HIGHEST_BYTE⟩,⟨_,PySem.W.mg_of X G v_HIGHEST_NUMBER⟩,⟨_,PySem.W.mg_of X G v_LONGEST_BODY⟩,⟨_,PySem.W.mg_of X G v_HIGHEST_TIMES⟩,⟨_,PySem.W.mg_of X G v_LARGEST_DEAL⟩,PySem.W.mg_of X G aK,kk1,kk2,x_BadRow,PySem.W.mg_of X G a_BadRow⟩,PySem.W.mg_none_of X G z_list,PySem.W.mg_none_of X G z_max,PySem.W.mg_none_of X G z_sorted,x_Broken,PySem.W.mg_of X G a_Broken,⟨pg_Book,hd_Book,po_Book,sa_Book⟩,n_Book_entries,n_Book_upcoming,n_Book_parts⟩
 have TB:TxtB K mg a_KINDS C_BadRow C_Broken:=⟨⟨PySem.W.mg_none_of X G z_len,PySem.W.mg_none_of X G z_isinstance,PySem.W.mg_none_of X G z_all,PySem.W.mg_none_of X G z_sum,PySem.W.mg_none_of X G z_tuple,PySem.W.mg_none_of X G z_int,PySem.W.mg_none_of X G z_bool,PySem.W.mg_none_of X G z_str,PySem.W.mg_none_of X G z_range,PySem.W.mg_none_of X G z_enumerate,⟨_,PySem.W.mg_of X G v_HIGHEST_BYTE⟩,⟨_,PySem.W.mg_of X G v_HIGHEST_NUMBER⟩,⟨_,PySem.W.mg_of X G v_LONGEST_BODY⟩,⟨_,PySem.W.mg_of X G v_HIGHEST_TIMES⟩,⟨_,PySem.W.mg_of X G v_LARGEST_DEAL⟩,PySem.W.mg_of X G aK,kk1,kk2,x_BadRow,PySem.W.mg_of X G a_BadRow⟩,PySem.W.mg_none_of X G z_list,⟨_,PySem.W.mg_of X G v_CHECKS_SIZE⟩,⟨_,PySem.W.mg_of X G v_HEAD_SIZE⟩,x_Broken,PySem.W.mg_of X G a_Broken⟩
 have TD:TxtD K mg C_BadName C_Missing C_There C_Stopped C_BadRow C_BadNumber C_Disk:=⟨⟨PySem.W.mg_none_of X G z_len,PySem.W.mg_none_of X G z_isinstance,PySem.W.mg_none_of X G z_all,PySem.W.mg_none_of X G z_sum,PySem.W.mg_none_of X G z_tuple,PySem.W.mg_none_of X G z_int,PySem.W.mg_none_of X G z_bool,PySem.W.mg_none_of X G z_str,PySem.W.mg_none_of X G z_range,PySem.W.mg_none_of X G z_enumerate,PySem.W.mg_none_of X G z_list,PySem.W.mg_none_of X G z_sorted,⟨_,PySem.W.mg_of X G v_HIGHEST_BYTE⟩⟩,⟨_,PySem.W.mg_of X G v_NAME_SIGNS⟩,⟨_,PySem.W.mg_of X G v_LONGEST_NAME⟩,⟨_,PySem.W.mg_of X G v_MOST_STEPS⟩,x_BadName,PySem.W.mg_of X G a_BadName,x_Missing,PySem.W.mg_of X G a_Missing,x_There,PySem.W.mg_of X G a_There,x_Stopped,PySem.W.mg_of X G a_Stopped,x_BadRow,PySem.W.mg_of X G a_BadRow,x_BadNumber,PySem.W.mg_of X G a_BadNumber,⟨pg_Disk,hd_Disk,po_Disk,sa_Disk⟩,n_Disk_files,n_Disk_steps_done,n_Disk_steps_ahead⟩
 have TQ:TxtQ K mg ‹16›:=⟨PySem.W.mg_none_of X G z_len,PySem.W.mg_none_of X G z_int,PySem.W.mg_none_of X G z_sorted,PySem.W.mg_none_of X G z_sum,x_Broken,PySem.W.mg_of X G a_Broken,⟨pg_Book,hd_Book,po_Book,sa_Book⟩,⟨pg_Disk,hd_Disk,po_Disk,sa_Disk⟩,⟨pg_Queue,hd_Queue,po_Queue,sa_Queue⟩,PySem.W.mg_none_of X G z_min,⟨_,PySem.W.mg_of X G v_LARGEST_MOST⟩,⟨_,PySem.W.mg_of X G v_LONGEST_HOLD⟩,⟨_,PySem.W.mg_of X G v_HIGHEST_TRIES⟩,⟨_,PySem.W.mg_of X G v_HAND_SIGNS⟩,⟨_,PySem.W.mg_of X G v_LONGEST_HAND⟩,⟨_,PySem.W.mg_of X G v_HIGHEST_NUMBER⟩,⟨_,PySem.W.mg_of X G v_HIGHEST_TIMES⟩,x_BadSettings,PySem.W.mg_of X G a_BadSettings,x_BadBody,PySem.W.mg_of X G a_BadBody,x_BadHand,PySem.W.mg_of X G a_BadHand,x_NotHeld,PySem.W.mg_of X G a_NotHeld,n_Book_upcoming,n_Queue_disk,n_Queue_most,n_Queue_hold,n_Queue_tries,n_Queue_book,n_Queue_first,n_Queue_last,n_Queue_writing,n_Queue_holders,n_Queue_now,PySem.W.mg_none_of X G z_isinstance,PySem.W.mg_none_of X G z_tuple,PySem.W.mg_none_of X G z_enumerate,PySem.W.mg_none_of X G z_range,PySem.W.mg_none_of X G z_list,⟨_,PySem.W.mg_of X G v_LARGEST_DEAL⟩,x_BadNumber,PySem.W.mg_of X G a_BadNumber⟩
 obtain⟨f_is_number,fd_is_number,F_is_number,m_is_number,k_is_number⟩:=d_is_number.get X G
 obtain⟨f_check_steps,fd_check_steps,F_check_steps,m_check_steps,k_check_steps⟩:=d_check_steps.get X G
 obtain⟨f_segment_name,fd_segment_name,F_segment_name,m_segment_name,k_segment_name⟩:=d_segment_name.get X G
 obtain⟨f_segment_of,fd_segment_of,F_segment_of,m_segment_of,k_segment_of⟩:=d_segment_of.get X G
 obtain⟨f_segments_on,fd_segments_on,F_segments_on,m_segments_on,k_segments_on⟩:=d_segments_on.get X G
 obtain⟨f_is_word,fd_is_word,F_is_word,m_is_word,k_is_word⟩:=d_is_word.get X G
 obtain⟨f_check_name,fd_check_name,F_check_name,m_check_name,k_check_name⟩:=d_check_name.get X G
 obtain⟨f_is_bytes,fd_is_bytes,F_is_bytes,m_is_bytes,k_is_bytes⟩:=d_is_bytes.get X G
 obtain⟨f_fits_kind,fd_fits_kind,F_fits_kind,m_fits_kind,k_fits_kind⟩:=d_fits_kind.get X G
 obtain⟨f_is_row,fd_is_row,F_is_row,m_is_row,k_is_row⟩:=d_is_row.get X G
 obtain⟨f_check_body,fd_check_body,F_check_body,m_check_body,k_check_body⟩:=d_check_body.get X G
 obtain⟨f_checks_of,fd_checks_of,F_checks_of,m_checks_of,k_checks_of⟩:=d_checks_of.get X G
 obtain⟨f_row_bytes,fd_row_bytes,F_row_bytes,m_row_bytes,k_row_bytes⟩:=d_row_bytes.get X G
 obtain⟨f_row_end,fd_row_end,F_row_end,m_row_end,k_row_end⟩:=d_row_end.get X G
 obtain⟨f_row_from,fd_row_from,F_row_from,m_row_from,k_row_from⟩:=d_row_from.get X G
 obtain⟨f_rows_in,fd_rows_in,F_rows_in,m_rows_in,k_rows_in⟩:=d_rows_in.get X G
 obtain⟨f_without_last_parts,fd_without_last_parts,F_without_last_parts,m_without_last_parts,k_without_last_parts⟩:=d_without_last_parts.get X G
 obtain⟨f_make_good,fd_make_good,F_make_good,m_make_good,k_make_good⟩:=d_make_good.get X G
 obtain⟨f_check_bodies,fd_check_bodies,F_check_bodies,m_check_bodies,k_check_bodies⟩:=d_check_bodies.get X G
 obtain⟨f_check_hand,fd_check_hand,F_check_hand,m_check_hand,k_check_hand⟩:=d_check_hand.get X G
 obtain⟨f__law_cell,fd__law_cell,F__law_cell,m__law_cell,k__law_cell⟩:=d__law_cell.get X G
 obtain⟨f__law_mix,fd__law_mix,F__law_mix,m__law_mix,k__law_mix⟩:=d__law_mix.get X G
 obtain⟨f_check_settings,fd_check_settings,F_check_settings,m_check_settings,k_check_settings⟩:=d_check_settings.get X G
 obtain⟨f_rows_of,fd_rows_of,F_rows_of,m_rows_of,k_rows_of⟩:=d_rows_of.get X G
 obtain⟨f_book_of,fd_book_of,F_book_of,m_book_of,k_book_of⟩:=d_book_of.get X G
 obtain⟨f__law_queue,fd__law_queue,F__law_queue,m__law_queue,k__law_queue⟩:=d__law_queue.get X G
 obtain⟨f__law_copy,fd__law_copy,F__law_copy,m__law_copy,k__law_copy⟩:=d__law_copy.get X G
 obtain⟨f_D__init__,fd_D__init__,F_D__init__,a_D__init__,i_D__init__,k_D__init__⟩:=e_Disk___init__.get
 obtain⟨f_Dnames,fd_Dnames,F_Dnames,a_Dnames,i_Dnames,k_Dnames⟩:=e_Disk_names.get
 obtain⟨f_Dcheck_file,fd_Dcheck_file,F_Dcheck_file,a_Dcheck_file,i_Dcheck_file,k_Dcheck_file⟩:=e_Disk_check_file.get
 obtain⟨f_Dsize,fd_Dsize,F_Dsize,a_Dsize,i_Dsize,k_Dsize⟩:=e_Disk_size.get
 obtain⟨f_Dread,fd_Dread,F_Dread,a_Dread,i_Dread,k_Dread⟩:=e_Disk_read.get
 obtain⟨f_Dcount_step,fd_Dcount_step,F_Dcount_step,a_Dcount_step,i_Dcount_step,k_Dcount_step⟩:=e_Disk_count_step.get
 obtain⟨f_Dmake,fd_Dmake,F_Dmake,a_Dmake,i_Dmake,k_Dmake⟩:=e_Disk_make.get
 obtain⟨f_Ddrop,fd_Ddrop,F_Ddrop,a_Ddrop,i_Ddrop,k_Ddrop⟩:=e_Disk_drop.get
 obtain⟨f_Dcut,fd_Dcut,F_Dcut,a_Dcut,i_Dcut,k_Dcut⟩:=e_Disk_cut.get
 obtain⟨f_Dadd,fd_Dadd,F_Dadd,a_Dadd,i_Dadd,k_Dadd⟩:=e_Disk_add.get
 obtain⟨f_Qsizes,fd_Qsizes,F_Qsizes,a_Qsizes,i_Qsizes,k_Qsizes⟩:=e_Queue_sizes.get
 obtain⟨f_Qletters,fd_Qletters,F_Qletters,a_Qletters,i_Qletters,k_Qletters⟩:=e_Queue_letters.get
 obtain⟨f_Qcoming,fd_Qcoming,F_Qcoming,a_Qcoming,i_Qcoming,k_Qcoming⟩:=e_Queue_coming.get
 obtain⟨f_Qis_last_full,fd_Qis_last_full,F_Qis_last_full,a_Qis_last_full,i_Qis_last_full,k_Qis_last_full⟩:=e_Queue_is_last_full.get
 obtain⟨f_Qbegin_segment,fd_Qbegin_segment,F_Qbegin_segment,a_Qbegin_segment,i_Qbegin_segment,k_Qbegin_segment⟩:=e_Queue_begin_segment.get
 obtain⟨f_Qwrite,fd_Qwrite,F_Qwrite,a_Qwrite,i_Qwrite,k_Qwrite⟩:=e_Queue_write.get
 obtain⟨f_Qput,fd_Qput,F_Qput,a_Qput,i_Qput,k_Qput⟩:=e_Queue_put.get
 obtain⟨f_Qput_all,fd_Qput_all,F_Qput_all,a_Qput_all,i_Qput_all,k_Qput_all⟩:=e_Queue_put_all.get
 obtain⟨f_Qfree_letters,fd_Qfree_letters,F_Qfree_letters,a_Qfree_letters,i_Qfree_letters,k_Qfree_letters⟩:=e_Queue_free_letters.get
 obtain⟨f_Qready,fd_Qready,F_Qready,a_Qready,i_Qready,k_Qready⟩:=e_Queue_ready.get
 obtain⟨f_Qtake,fd_Qtake,F_Qtake,a_Qtake,i_Qtake,k_Qtake⟩:=e_Queue_take.get
 obtain⟨f_Qcheck_held,fd_Qcheck_held,F_Qcheck_held,a_Qcheck_held,i_Qcheck_held,k_Qcheck_held⟩:=e_Queue_check_held.get
 obtain⟨f_Qdone,fd_Qdone,F_Qdone,a_Qdone,i_Qdone,k_Qdone⟩:=e_Queue_done.get
 obtain⟨f_Qdrop_first,fd_Qdrop_first,F_Qdrop_first,a_Qdrop_first,i_Qdrop_first,k_Qdrop_first⟩:=e_Queue_drop_first.get
 obtain⟨f_Qcarry,fd_Qcarry,F_Qcarry,a_Qcarry,i_Qcarry,k_Qcarry⟩:=e_Queue_carry.get
 obtain⟨f_Qsweep,fd_Qsweep,F_Qsweep,a_Qsweep,i_Qsweep,k_Qsweep⟩:=e_Queue_sweep.get
 obtain⟨f_Q__init__,fd_Q__init__,F_Q__init__,a_Q__init__,i_Q__init__,k_Q__init__⟩:=e_Queue___init__.get
 obtain⟨f_Bletter,fd_Bletter,F_Bletter,a_Bletter,i_Bletter,k_Bletter⟩:=e_Book_letter.get
 obtain⟨f_Bletters,fd_Bletters,F_Bletters,a_Bletters,i_Bletters,k_Bletters⟩:=e_Book_letters.get
 obtain⟨f_Benter_put,fd_Benter_put,F_Benter_put,a_Benter_put,i_Benter_put,k_Benter_put⟩:=e_Book_enter_put.get
 obtain⟨f_Benter_deal,fd_Benter_deal,F_Benter_deal,a_Benter_deal,i_Benter_deal,k_Benter_deal⟩:=e_Book_enter_deal.get
 obtain⟨f_Bchange_entry,fd_Bchange_entry,F_Bchange_entry,a_Bchange_entry,i_Bchange_entry,k_Bchange_entry⟩:=e_Book_change_entry.get
 obtain⟨f_Benter,fd_Benter,F_Benter,a_Benter,i_Benter,k_Benter⟩:=e_Book_enter.get
 obtain⟨f_Bnumbers_in,fd_Bnumbers_in,F_Bnumbers_in,a_Bnumbers_in,i_Bnumbers_in,k_Bnumbers_in⟩:=e_Book_numbers_in.get
 obtain⟨f_B__init__,fd_B__init__,F_B__init__,a_B__init__,i_B__init__,k_B__init__⟩:=e_Book___init__.get
 refine⟨PySem.W.fnOf "law" "law" (defArgs s_law) (defBody s_law) (defScope s_law) .none kVL dcL pmL anL cdL ctL,fun s v=>.of_eq rfl,fun base _ _=>?_⟩
 have c_is_number:‹13› "is_number" 1 ["thing","least","most"] sp_is_number:=⟨f_is_number,fd_is_number,ok_is_number F_is_number TK.toTxtR,m_is_number,k_is_number,F_is_number.binds (ps:=["thing","least","most"]) ‹19›⟩
 have c_check_steps:‹13› "check_steps" 2 ["steps"] (sp_check_steps C_BadNumber):=⟨f_check_steps,fd_check_steps,ok_check_steps F_check_steps TD c_is_number,m_check_steps,k_check_steps,F_check_steps.binds (ps:=["steps"]) ‹17›⟩
 have c_Disk:Maker l.prog w K mg base "Disk" C_Disk 3 ["self","steps"] (sp_dinit C_Disk C_BadNumber):=⟨f_D__init__,fd_D__init__,ok_dinit F_D__init__ TD c_check_steps,⟨mk_Disk,a_D__init__,i_D__init__,kc_Disk⟩,PySem.W.mg_of X G b_Disk,F_D__init__.binds (ps:=["self","steps"]) ‹18›⟩
 have c_segment_name:‹13› "segment_name" 1 ["segment"] sp_segment_name:=⟨f_segment_name,fd_segment_name,ok_segment_name F_segment_name ,m_segment_name,k_segment_name,F_segment_name.binds (ps:=["segment"]) ‹17›⟩
 have c_segment_of:‹13› "segment_of" 2 ["name"] sp_segment_of:=⟨f_segment_of,fd_segment_of,ok_segment_of F_segment_of TQ c_segment_name,m_segment_of,k_segment_of,F_segment_of.binds (ps:=["name"]) ‹17›⟩
 have mD_names:‹14› C_Disk "names" 1 ["self"] (sp_names C_Disk):=⟨f_Dnames,fd_Dnames,ok_names F_Dnames TD,⟨a_Dnames,i_Dnames,k_Dnames⟩,F_Dnames.binds (ps:=["self"]) ‹17›⟩
 have c_segments_on:‹13› "segments_on" 3 ["disk"] (sp_segments_on ‹16›):=⟨f_segments_on,fd_segments_on,ok_segments_on F_segments_on TQ c_segment_of mD_names,m_segments_on,k_segments_on,F_segments_on.binds (ps:=["disk"]) ‹17›⟩
 have c_is_word:‹13› "is_word" 1 ["thing","signs","longest"] sp_is_word:=⟨f_is_word,fd_is_word,ok_is_word F_is_word TD.toTxtN,m_is_word,k_is_word,F_is_word.binds (ps:=["thing","signs","longest"]) ‹19›⟩
 have c_check_name:‹13› "check_name" 2 ["name"] (sp_check_name C_BadName):=⟨f_check_name,fd_check_name,ok_check_name F_check_name TD c_is_word,m_check_name,k_check_name,F_check_name.binds (ps:=["name"]) ‹17›⟩
 have mD_check_file:‹14› C_Disk "check_file" 3 ["self","name"] (sp_check_file C_Disk C_BadName C_Missing):=⟨f_Dcheck_file,fd_Dcheck_file,ok_check_file F_Dcheck_file TD c_check_name,⟨a_Dcheck_file,i_Dcheck_file,k_Dcheck_file⟩,F_Dcheck_file.binds (ps:=["self","name"]) ‹18›⟩
 have mD_size:‹14› C_Disk "size" 4 ["self","name"] (sp_size C_Disk C_BadName C_Missing):=⟨f_Dsize,fd_Dsize,ok_size F_Dsize TD mD_check_file,⟨a_Dsize,i_Dsize,k_Dsize⟩,F_Dsize.binds (ps:=["self","name"]) ‹18›⟩
 have mQ_sizes:‹14› C_Queue "sizes" 5 ["self"] (sp_q_sizes ‹16›):=⟨f_Qsizes,fd_Qsizes,ok_q_sizes F_Qsizes TQ c_segment_name c_segments_on mD_size,⟨a_Qsizes,i_Qsizes,k_Qsizes⟩,F_Qsizes.binds (ps:=["self"]) ‹17›⟩
 have mB_letter:‹14› C_Book "letter" 1 ["self","number"] (sp_letter C_Book):=⟨f_Bletter,fd_Bletter,ok_letter F_Bletter TK,⟨a_Bletter,i_Bletter,k_Bletter⟩,F_Bletter.binds (ps:=["self","number"]) ‹18›⟩
 have mB_letters:‹14› C_Book "letters" 2 ["self"] (sp_letters C_Book):=⟨f_Bletters,fd_Bletters,ok_letters F_Bletters TK mB_letter,⟨a_Bletters,i_Bletters,k_Bletters⟩,F_Bletters.binds (ps:=["self"]) ‹17›⟩
 have mQ_letters:‹14› C_Queue "letters" 3 ["self"] (sp_q_letters ‹16›):=⟨f_Qletters,fd_Qletters,ok_q_letters F_Qletters TQ mB_letters,⟨a_Qletters,i_Qletters,k_Qletters⟩,F_Qletters.binds (ps:=["self"]) ‹17›⟩
 have mQ_coming:‹14› C_Queue "coming" 1 ["self"] (sp_q_coming ‹16›):=⟨f_Qcoming,fd_Qcoming,ok_q_coming F_Qcoming TQ,⟨a_Qcoming,i_Qcoming,k_Qcoming⟩,F_Qcoming.binds (ps:=["self"]) ‹17›⟩
 have c_is_bytes:‹13› "is_bytes" 2 ["thing"] sp_is_bytes:=⟨f_is_bytes,fd_is_bytes,ok_is_bytes F_is_bytes TK.toTxtR c_is_number,m_is_bytes,k_is_bytes,F_is_bytes.binds (ps:=["thing"]) ‹17›⟩
 have c_fits_kind:‹13› "fits_kind" 1 ["kind","body"] sp_fits_kind:=⟨f_fits_kind,fd_fits_kind,ok_fits_kind F_fits_kind TK.toTxtR,m_fits_kind,k_fits_kind,F_fits_kind.binds (ps:=["kind","body"]) ‹18›⟩
 have c_is_row:‹13› "is_row" 3 ["thing"] sp_is_row:=⟨f_is_row,fd_is_row,ok_is_row F_is_row TK.toTxtR c_is_number c_is_bytes c_fits_kind,m_is_row,k_is_row,F_is_row.binds (ps:=["thing"]) ‹17›⟩
 have c_check_body:‹13› "check_body" 4 ["body"] (sp_check_body ‹16›):=⟨f_check_body,fd_check_body,ok_check_body F_check_body TQ c_is_row,m_check_body,k_check_body,F_check_body.binds (ps:=["body"]) ‹17›⟩
 have c_checks_of:‹13› "checks_of" 1 ["behind"] sp_checks_of:=⟨f_checks_of,fd_checks_of,ok_checks_of F_checks_of TK.toTxtR,m_checks_of,k_checks_of,F_checks_of.binds (ps:=["behind"]) ‹17›⟩
 have c_row_bytes:‹13› "row_bytes" 4 ["row"] (sp_row_bytes C_BadRow):=⟨f_row_bytes,fd_row_bytes,ok_row_bytes F_row_bytes TK.toTxtR c_is_row c_checks_of,m_row_bytes,k_row_bytes,F_row_bytes.binds (ps:=["row"]) ‹17›⟩
 have c_row_end:‹13› "row_end" 1 ["some","start"] sp_row_end:=⟨f_row_end,fd_row_end,ok_row_end F_row_end TB,m_row_end,k_row_end,F_row_end.binds (ps:=["some","start"]) ‹18›⟩
 have c_row_from:‹13› "row_from" 4 ["whole"] (sp_row_from C_Broken):=⟨f_row_from,fd_row_from,ok_row_from F_row_from TB c_is_row c_checks_of,m_row_from,k_row_from,F_row_from.binds (ps:=["whole"]) ‹17›⟩
 have c_rows_in:‹13› "rows_in" 5 ["some"] (sp_rows_in C_BadRow C_Broken):=⟨f_rows_in,fd_rows_in,ok_rows_in F_rows_in TB c_is_bytes c_row_end c_row_from,m_rows_in,k_rows_in,F_rows_in.binds (ps:=["some"]) ‹17›⟩
 have c_without_last_parts:‹13› "without_last_parts" 1 ["rows"] sp_without:=⟨f_without_last_parts,fd_without_last_parts,ok_without F_without_last_parts TQ,m_without_last_parts,k_without_last_parts,F_without_last_parts.binds (ps:=["rows"]) ‹17›⟩
 have mD_read:‹14› C_Disk "read" 4 ["self","name"] (sp_read C_Disk C_BadName C_Missing):=⟨f_Dread,fd_Dread,ok_read F_Dread TD mD_check_file,⟨a_Dread,i_Dread,k_Dread⟩,F_Dread.binds (ps:=["self","name"]) ‹18›⟩
 have mD_count_step:‹14› C_Disk "count_step" 1 ["self"] (sp_count_step C_Disk C_Stopped):=⟨f_Dcount_step,fd_Dcount_step,ok_count_step F_Dcount_step TD,⟨a_Dcount_step,i_Dcount_step,k_Dcount_step⟩,F_Dcount_step.binds (ps:=["self"]) ‹17›⟩
 have mD_make:‹14› C_Disk "make" 3 ["self","name"] (sp_make C_Disk C_BadName C_There C_Stopped):=⟨f_Dmake,fd_Dmake,ok_make F_Dmake TD c_check_name mD_count_step,⟨a_Dmake,i_Dmake,k_Dmake⟩,F_Dmake.binds (ps:=["self","name"]) ‹18›⟩
 have mD_drop:‹14› C_Disk "drop" 4 ["self","name"] (sp_drop C_Disk C_BadName C_Missing C_Stopped):=⟨f_Ddrop,fd_Ddrop,ok_drop F_Ddrop TD mD_check_file mD_count_step,⟨a_Ddrop,i_Ddrop,k_Ddrop⟩,F_Ddrop.binds (ps:=["self","name"]) ‹18›⟩
 have mD_cut:‹14› C_Disk "cut" 4 ["self","name","size"] (sp_cut C_Disk C_BadName C_Missing C_BadNumber C_Stopped):=⟨f_Dcut,fd_Dcut,ok_cut F_Dcut TD c_is_number mD_check_file mD_count_step,⟨a_Dcut,i_Dcut,k_Dcut⟩,F_Dcut.binds (ps:=["self","name","size"]) ‹19›⟩
 have mD_add:‹14› C_Disk "add" 4 ["self","name","some"] (sp_add C_Disk C_BadName C_Missing C_BadRow C_Stopped):=⟨f_Dadd,fd_Dadd,ok_add F_Dadd TD c_is_bytes mD_check_file mD_count_step,⟨a_Dadd,i_Dadd,k_Dadd⟩,F_Dadd.binds (ps:=["self","name","some"]) ‹19›⟩
 have c_make_good:‹13› "make_good" 6 ["disk"] (sp_make_good ‹16›):=⟨f_make_good,fd_make_good,ok_make_good F_make_good TQ c_segment_name c_segments_on c_rows_in c_without_last_parts c_row_bytes mD_read mD_size mD_make mD_drop mD_cut mD_add,m_make_good,k_make_good,F_make_good.binds (ps:=["disk"]) ‹17›⟩
 have mB_enter_put:‹14› C_Book "enter_put" 1 ["self","number","body","segment"] (sp_enter_put C_Book C_Broken):=⟨f_Benter_put,fd_Benter_put,ok_enter_put F_Benter_put TK,⟨a_Benter_put,i_Benter_put,k_Benter_put⟩,F_Benter_put.binds (ps:=["self","number","body","segment"]) fun _ _ _ _ _ _ us hl=>match us,hl with | [_,_,_,_],_=>rfl⟩
 have mB_enter_deal:‹14› C_Book "enter_deal" 2 ["self","number","many","segment"] (sp_enter_deal C_Book C_Broken):=⟨f_Benter_deal,fd_Benter_deal,ok_enter_deal F_Benter_deal TK mB_enter_put,⟨a_Benter_deal,i_Benter_deal,k_Benter_deal⟩,F_Benter_deal.binds (ps:=["self","number","many","segment"]) fun _ _ _ _ _ _ us hl=>match us,hl with | [_,_,_,_],_=>rfl⟩
 have mB_change_entry:‹14› C_Book "change_entry" 1 ["self","kind","number"] (sp_change C_Book):=⟨f_Bchange_entry,fd_Bchange_entry,ok_change F_Bchange_entry TK,⟨a_Bchange_entry,i_Bchange_entry,k_Bchange_entry⟩,F_Bchange_entry.binds (ps:=["self","kind","number"]) ‹19›⟩
 have mB_enter:‹14› C_Book "enter" 3 ["self","row","segment"] (sp_enter C_Book C_Broken):=⟨f_Benter,fd_Benter,ok_enter F_Benter TK mB_enter_put mB_enter_deal mB_change_entry,⟨a_Benter,i_Benter,k_Benter⟩,F_Benter.binds (ps:=["self","row","segment"]) ‹19›⟩
 have mQ_is_last_full:‹14› C_Queue "is_last_full" 5 ["self"] (sp_q_full ‹16›):=⟨f_Qis_last_full,fd_Qis_last_full,ok_q_full F_Qis_last_full TQ c_segment_name mD_size,⟨a_Qis_last_full,i_Qis_last_full,k_Qis_last_full⟩,F_Qis_last_full.binds (ps:=["self"]) ‹17›⟩
 have mQ_begin_segment:‹14› C_Queue "begin_segment" 5 ["self"] (sp_q_begin ‹16›):=⟨f_Qbegin_segment,fd_Qbegin_segment,ok_q_begin F_Qbegin_segment TQ c_segment_name c_row_bytes mD_make mD_add,⟨a_Qbegin_segment,i_Qbegin_segment,k_Qbegin_segment⟩,F_Qbegin_segment.binds (ps:=["self"]) ‹17›⟩
 have mQ_write:‹14› C_Queue "write" 7 ["self","rows"] (sp_q_write ‹16›):=⟨f_Qwrite,fd_Qwrite,ok_q_write F_Qwrite TQ c_segment_name c_row_bytes c_make_good mD_add mB_enter mQ_is_last_full mQ_begin_segment,⟨a_Qwrite,i_Qwrite,k_Qwrite⟩,F_Qwrite.binds (ps:=["self","rows"]) ‹18›⟩
 have mQ_put:‹14› C_Queue "put" 8 ["self","body"] (sp_q_put ‹16›):=⟨f_Qput,fd_Qput,ok_q_put F_Qput TQ c_check_body mQ_write,⟨a_Qput,i_Qput,k_Qput⟩,F_Qput.binds (ps:=["self","body"]) ‹18›⟩
 have c_check_bodies:‹13› "check_bodies" 5 ["bodies"] (sp_check_bodies ‹16›):=⟨f_check_bodies,fd_check_bodies,ok_check_bodies F_check_bodies TQ c_check_body,m_check_bodies,k_check_bodies,F_check_bodies.binds (ps:=["bodies"]) ‹17›⟩
 have mQ_put_all:‹14› C_Queue "put_all" 8 ["self","bodies"] (sp_q_putall ‹16›):=⟨f_Qput_all,fd_Qput_all,ok_q_putall F_Qput_all TQ c_check_bodies mQ_write,⟨a_Qput_all,i_Qput_all,k_Qput_all⟩,F_Qput_all.binds (ps:=["self","bodies"]) ‹18›⟩
 have c_check_hand:‹13› "check_hand" 2 ["hand"] (sp_check_hand ‹16›):=⟨f_check_hand,fd_check_hand,ok_check_hand F_check_hand TQ c_is_word,m_check_hand,k_check_hand,F_check_hand.binds (ps:=["hand"]) ‹17›⟩
 have mQ_free_letters:‹14› C_Queue "free_letters" 3 ["self"] (sp_q_free ‹16›):=⟨f_Qfree_letters,fd_Qfree_letters,ok_q_free F_Qfree_letters TQ mB_letters,⟨a_Qfree_letters,i_Qfree_letters,k_Qfree_letters⟩,F_Qfree_letters.binds (ps:=["self"]) ‹17›⟩
 have mQ_ready:‹14› C_Queue "ready" 4 ["self"] (sp_q_pick ‹16› ltB):=⟨f_Qready,fd_Qready,ok_q_ready F_Qready TQ mQ_free_letters,⟨a_Qready,i_Qready,k_Qready⟩,F_Qready.binds (ps:=["self"]) ‹17›⟩
 have mQ_take:‹14› C_Queue "take" 8 ["self","hand"] (sp_q_take ‹16›):=⟨f_Qtake,fd_Qtake,ok_q_take F_Qtake TQ c_check_hand mB_letter mQ_ready mQ_write,⟨a_Qtake,i_Qtake,k_Qtake⟩,F_Qtake.binds (ps:=["self","hand"]) ‹18›⟩
 have mQ_check_held:‹14› C_Queue "check_held" 3 ["self","hand","number"] (sp_q_check ‹16›):=⟨f_Qcheck_held,fd_Qcheck_held,ok_q_check F_Qcheck_held TQ c_is_number c_check_hand,⟨a_Qcheck_held,i_Qcheck_held,k_Qcheck_held⟩,F_Qcheck_held.binds (ps:=["self","hand","number"]) ‹19›⟩
 have mQ_done:‹14› C_Queue "done" 8 ["self","hand","number"] (sp_q_done ‹16›):=⟨f_Qdone,fd_Qdone,ok_q_done F_Qdone TQ mQ_check_held mQ_write,⟨a_Qdone,i_Qdone,k_Qdone⟩,F_Qdone.binds (ps:=["self","hand","number"]) ‹19›⟩
 have mB_numbers_in:‹14› C_Book "numbers_in" 1 ["self","segment"] (sp_numbers C_Book):=⟨f_Bnumbers_in,fd_Bnumbers_in,ok_b_numbers F_Bnumbers_in TK,⟨a_Bnumbers_in,i_Bnumbers_in,k_Bnumbers_in⟩,F_Bnumbers_in.binds (ps:=["self","segment"]) ‹18›⟩
 have mQ_drop_first:‹14› C_Queue "drop_first" 5 ["self"] (sp_q_dropf ‹16›):=⟨f_Qdrop_first,fd_Qdrop_first,ok_q_dropf F_Qdrop_first TQ c_segment_name mD_drop,⟨a_Qdrop_first,i_Qdrop_first,k_Qdrop_first⟩,F_Qdrop_first.binds (ps:=["self"]) ‹17›⟩
 have mQ_carry:‹14› C_Queue "carry" 8 ["self"] (sp_q_carry ‹16›):=⟨f_Qcarry,fd_Qcarry,ok_q_carry F_Qcarry TQ mB_numbers_in mB_letter mQ_drop_first mQ_write,⟨a_Qcarry,i_Qcarry,k_Qcarry⟩,F_Qcarry.binds (ps:=["self"]) ‹17›⟩
 have mQ_sweep:‹14› C_Queue "sweep" 6 ["self"] (sp_q_sweep ‹16›):=⟨f_Qsweep,fd_Qsweep,ok_q_sweep F_Qsweep TQ mB_numbers_in mQ_drop_first,⟨a_Qsweep,i_Qsweep,k_Qsweep⟩,F_Qsweep.binds (ps:=["self"]) ‹17›⟩
 have c__law_cell:‹13› "_law_cell" 1 ["_law_script","_law_k"] (sp_cell K):=⟨f__law_cell,fd__law_cell,ok_cell F__law_cell TQ,m__law_cell,k__law_cell,F__law_cell.binds (ps:=["_law_script","_law_k"]) ‹18›⟩
 have c__law_mix:‹13› "_law_mix" 1 ["_law_cell_here","_law_prime","_law_many"] sp_mix:=⟨f__law_mix,fd__law_mix,ok_mix F__law_mix ,m__law_mix,k__law_mix,F__law_mix.binds (ps:=["_law_cell_here","_law_prime","_law_many"]) ‹19›⟩
 have c_check_settings:‹13› "check_settings" 2 ["most","hold","tries"] (sp_check_settings ‹16›):=⟨f_check_settings,fd_check_settings,ok_check_settings F_check_settings TQ c_is_number,m_check_settings,k_check_settings,F_check_settings.binds (ps:=["most","hold","tries"]) ‹19›⟩
 have c_rows_of:‹13› "rows_of" 6 ["disk","segment","last"] (sp_rows_of ‹16›):=⟨f_rows_of,fd_rows_of,ok_rows_of F_rows_of TQ c_segment_name c_rows_in c_without_last_parts mD_read,m_rows_of,k_rows_of,F_rows_of.binds (ps:=["disk","segment","last"]) ‹19›⟩
 have c_Book:Maker l.prog w K mg base "Book" C_Book 1 ["self"] (sp_init C_Book):=⟨f_B__init__,fd_B__init__,ok_init F_B__init__ TK,⟨mk_Book,a_B__init__,i_B__init__,kc_Book⟩,PySem.W.mg_of X G b_Book,F_B__init__.binds (ps:=["self"]) ‹17›⟩
 have c_book_of:‹13› "book_of" 7 ["disk"] (sp_book_of ‹16›):=⟨f_book_of,fd_book_of,ok_book_of F_book_of TQ c_segments_on c_rows_of c_Book mB_enter,m_book_of,k_book_of,F_book_of.binds (ps:=["disk"]) ‹17›⟩
 have c_Queue:Maker l.prog w K mg base "Queue" C_Queue 8 ["self","disk","most","hold","tries"] (sp_q_init ‹16›):=⟨f_Q__init__,fd_Q__init__,ok_q_init F_Q__init__ TQ c_check_settings c_book_of c_make_good,⟨mk_Queue,a_Q__init__,i_Q__init__,kc_Queue⟩,PySem.W.mg_of X G b_Queue,F_Q__init__.binds (ps:=["self","disk","most","hold","tries"]) fun _ _ _ _ _ _ us hl=>match us,hl with | [_,_,_,_,_],_=>rfl⟩
 have c__law_queue:‹13› "_law_queue" 10 ["_law_disk","_law_settings"] (sp_lqueue ‹16›):=⟨f__law_queue,fd__law_queue,ok_lqueue F__law_queue c_Queue,m__law_queue,k__law_queue,F__law_queue.binds (ps:=["_law_disk","_law_settings"]) ‹18›⟩
 have c__law_copy:‹13› "_law_copy" 5 ["_law_disk"] (sp_copy C_Disk):=⟨f__law_copy,fd__law_copy,ok_copy F__law_copy TQ c_Disk mD_names mD_make mD_add mD_read,m__law_copy,k__law_copy,F__law_copy.binds (ps:=["_law_disk"]) ‹17›⟩
 exact ok_law (fun_mk (st:=s_law) lL cL kL) TQ c_Disk mQ_sizes mQ_letters mQ_coming mQ_put mQ_put_all mQ_take mQ_done mQ_carry mQ_sweep c__law_cell c__law_mix c__law_queue c__law_copy
theorem walk {l:PySem.W.OpenLaw} {q:Program} {loose:List Str} {XP:(Str->Option Value)->Heap->Prop} {YP:World->Heap->Prop} {d:DefRec} {K:Params->PySem.W.Frag} (hn:l.most=some 63) (hdf:d.params.defaults=[])
  (hY:∀ (w:World) (h:Heap),YP w h->(K w.params).In h)
  (F:∀ (w:World) (mg:Str->Option Value) (fa:Addr) (h:Heap),(K w.params).In h->h.Ns mainGlobals mg->mg d.name=some (.ref fa)->
   ∃ fd:FuncData,(∀ (s:Shared) (u:Value),BindsTo s fd ⟨[u],[]⟩ [("_law_script",u)])/\∀ base:Heap,(K w.params).In base->base.Ns mainGlobals mg->FnOk l.prog w (K w.params) mg base (CXE l.prog w) 11 fa fd ["_law_script"] (sp_law (K w.params))) :
  PySem.W.WalkO q loose XP YP l.row.toRowW d [] (fun f vs=>PySem.call f vs):=
 L2.walk_of (n:=63) (k:=11) (x:="_law_script") (CX:=fun w=>CXE l.prog w) (sp:=fun w=>sp_law (K w.params)) hn (by decide) hdf ⟨rfl,by decide,by decide⟩ hY F (fun _ _ a ns hl _ hS=>⟨a,ns,rfl,hS,fun _=>rfl⟩) fun _ _ _ _ _ ⟨_,_,_,_,_,z⟩=>z
end Qh
end
end
section
namespace PySem.W.Fast
theorem tw9708693171587845595:True:=⟨⟩
theorem tw8751300380301607342:True:=⟨⟩
theorem tw8814233243201135662:True:=⟨⟩
theorem tw11768553157140019542:True:=⟨⟩
theorem tw10081849934989135187:True:=⟨⟩
theorem tw16703209071320384735:True:=⟨⟩
theorem tw4548763635187601500:True:=⟨⟩
theorem tw3558273550864839902:True:=⟨⟩
theorem tw7922062553136674299:True:=⟨⟩
theorem tw5609558767444336445:True:=⟨⟩
theorem tw13739075475396450083:True:=⟨⟩
theorem tw11085395541908541955:True:=⟨⟩
theorem tw16008008842898499311:True:=⟨⟩
theorem tw8140134963555208026:True:=⟨⟩
theorem tw17900617213701502557:True:=⟨⟩
theorem tw4831232289699860660:True:=⟨⟩
theorem tw9283880645862053878:True:=⟨⟩
theorem tw11093846685770539232:True:=⟨⟩
theorem tw17708629001915687909:True:=⟨⟩
theorem tw6460104415016245264:True:=⟨⟩
theorem tw3966113287191197130:True:=⟨⟩
theorem tw12029246226504452825:True:=⟨⟩
theorem tw4659239975671236661:True:=⟨⟩
theorem tw6214280037327960990:True:=⟨⟩
theorem tw4709301455690028055:True:=⟨⟩
theorem tw4800253681460554324:True:=⟨⟩
theorem tw8224863730558817400:True:=⟨⟩
theorem tw4921079132325767872:True:=⟨⟩
theorem tw246520216458294931:True:=⟨⟩
theorem tw4927617004696108285:True:=⟨⟩
theorem tw8946351932574152053:True:=⟨⟩
theorem tw10814700496904095870:True:=⟨⟩
theorem tw17292090315137302126:True:=⟨⟩
theorem tw17362236444171841185:True:=⟨⟩
theorem tw13963333522115325840:True:=⟨⟩
theorem tw16515980987260155735:True:=⟨⟩
theorem tw11703252442295622440:True:=⟨⟩
theorem tw11589954153305066666:True:=⟨⟩
theorem tw1632290410955495674:True:=⟨⟩
theorem tw15306740677970389355:True:=⟨⟩
theorem tw15739930958445876713:True:=⟨⟩
theorem tw6292331540041539233:True:=⟨⟩
theorem tw9884982824602509714:True:=⟨⟩
theorem tw3122291882231029540:True:=⟨⟩
theorem tw13241206254323255616:True:=⟨⟩
theorem tw5878718672230694295:True:=⟨⟩
theorem tw1637780072200918569:True:=⟨⟩
theorem tw4639783429492083208:True:=⟨⟩
theorem tw2939130446741186212:True:=⟨⟩
theorem tw7189684822639468781:True:=⟨⟩
theorem tw559051777038420127:True:=⟨⟩
theorem tw10042716036287432412:True:=⟨⟩
theorem tw10688389290912007586:True:=⟨⟩
theorem tw5765183263306514584:True:=⟨⟩
theorem tw469052544821019372:True:=⟨⟩
theorem tw7204985468772776549:True:=⟨⟩
theorem tw4930291277116354260:True:=⟨⟩
theorem tw5732749240970470388:True:=⟨⟩
theorem tw15019401580452416670:True:=⟨⟩
theorem tw12415417531976924357:True:=⟨⟩
theorem tw15616932243150913925:True:=⟨⟩
theorem tw9703748523926566061:True:=⟨⟩
theorem tw2716533834659396893:True:=⟨⟩
theorem tw5298108535071300700:True:=⟨⟩
theorem tw6944423954163330009:True:=⟨⟩
theorem tw13705250332130310505:True:=⟨⟩
theorem tw7360064122315518916:True:=⟨⟩
theorem tw4896042785114691393:True:=⟨⟩
theorem tw18119135398712851797:True:=⟨⟩
theorem tw14574155936542222591:True:=⟨⟩
theorem tw2466659414719672851:True:=⟨⟩
theorem tw3512589178278918771:True:=⟨⟩
theorem tw7151737177877483208:True:=⟨⟩
theorem tw17777782783618082906:True:=⟨⟩
theorem tw8188905937910283351:True:=⟨⟩
theorem tw10692732043316224778:True:=⟨⟩
theorem tw7176681169254702726:True:=⟨⟩
theorem tw7997623806053968806:True:=⟨⟩
theorem tw15817540942525217328:True:=⟨⟩
theorem tw16314010981215285737:True:=⟨⟩
theorem tw16318294072841276707:True:=⟨⟩
theorem tw17083088076086028412:True:=⟨⟩
theorem tw13504484814239350252:True:=⟨⟩
theorem tw16866988178024320829:True:=⟨⟩
theorem tw8410622794856527365:True:=⟨⟩
theorem tw2488700387471775083:True:=⟨⟩
theorem tw16810438763143938670:True:=⟨⟩
theorem tw18236285158622002869:True:=⟨⟩
theorem tw6324971093958978249:True:=⟨⟩
theorem tw16881634307810358561:True:=⟨⟩
end PySem.W.Fast
open PySem PySem.W PyProof.Rows
set_option maxRecDepth 100000 in
set_option maxHeartbeats 0 in
theorem PySem.Challenge.cw_queuehold_k41_whole_numbers_go_on_holds : PySem.Challenge.rw_queuehold_k41_whole_numbers_go_on.Holds := by
 w_on; o_law; k_head; (case hw=>w_witness2)
 k_fill
 refine Qh.walk (l:=PySem.Challenge.rw_queuehold_k41_whole_numbers_go_on) rfl rfl (fun w h Y=>PySem.W.kIn_of Y) ?F
 case F=>
  intro w mg fa h KX G hmg
  refine' Qh.law_mk KX G hmg ?d_is_number ?d_check_steps ?d_segment_name ?d_segment_of ?d_segments_on ?d_is_word ?d_check_name ?d_is_bytes ?d_fits_kind ?d_is_row ?d_check_body ?d_checks_of ?d_row_bytes ?d_row_end ?d_row_from ?d_rows_in ?d_without_last_parts ?d_make_good ?d_check_bodies ?d_check_hand ?d__law_cell ?d__law_mix ?d_check_settings ?d_rows_of ?d_book_of ?d__law_queue ?d__law_copy ?b_Disk ?pg_Disk ?hd_Disk ?po_Disk ?sa_Disk ?mk_Disk ?kc_Disk ?n_Disk_files ?n_Disk_steps_done ?n_Disk_steps_ahead ?e_Disk___init__ ?e_Disk_names ?e_Disk_check_file ?e_Disk_size ?e_Disk_read ?e_Disk_count_step ?e_Disk_make ?e_Disk_drop ?e_Disk_cut ?e_Disk_add ?b_Queue ?pg_Queue ?hd_Queue ?po_Queue ?sa_Queue ?mk_Queue ?kc_Queue ?n_Queue_disk ?n_Queue_most ?n_Queue_hold ?n_Queue_tries ?n_Queue_book ?n_Queue_first ?n_Queue_last ?n_Queue_writing ?n_Queue_holders ?n_Queue_now ?e_Queue_sizes ?e_Queue_letters ?e_Queue_coming ?e_Queue_is_last_full ?e_Queue_begin_segment ?e_Queue_write ?e_Queue_put ?e_Queue_put_all ?e_Queue_free_letters ?e_Queue_ready ?e_Queue_take ?e_Queue_check_held ?e_Queue_done ?e_Queue_drop_first ?e_Queue_carry ?e_Queue_sweep ?e_Queue___init__ ?b_Book ?pg_Book ?hd_Book ?po_Book ?sa_Book ?mk_Book ?kc_Book ?n_Book_entries ?n_Book_upcoming ?n_Book_parts ?e_Book_letter ?e_Book_letters ?e_Book_enter_put ?e_Book_enter_deal ?e_Book_change_entry ?e_Book_enter ?e_Book_numbers_in ?e_Book___init__ ?aL ?lL ?cL ?kL ?z_len ?z_isinstance ?z_all ?z_sum ?z_tuple ?z_int ?z_bool ?z_str ?z_range ?z_enumerate ?z_list ?z_max ?z_min ?z_sorted ?v_HIGHEST_BYTE ?v_HIGHEST_NUMBER ?v_LONGEST_BODY ?v_HIGHEST_TIMES ?v_LARGEST_DEAL ?v_CHECKS_SIZE ?v_HEAD_SIZE ?v_LARGEST_MOST ?v_LONGEST_HOLD ?v_HIGHEST_TRIES ?v_LONGEST_HAND ?v_LONGEST_NAME ?v_MOST_STEPS ?v_NAME_SIGNS ?v_HAND_SIGNS ?aK ?qK ?a_BadName ?x_BadName ?a_Missing ?x_Missing ?a_There ?x_There ?a_Stopped ?x_Stopped ?a_Broken ?x_Broken ?a_BadRow ?x_BadRow ?a_BadSettings ?x_BadSettings ?a_BadBody ?x_BadBody ?a_BadHand ?x_BadHand ?a_BadNumber ?x_BadNumber ?a_NotHeld ?x_NotHeld
  case d_is_number=>refine' Qh.defIn_mk ?a ?l ?c ?k; (case a=>k_is); (case l=>k_is); (case c=>k_is); (case k=>k_is)
  case d_check_steps=>refine' Qh.defIn_mk ?a ?l ?c ?k; (case a=>k_is); (case l=>k_is); (case c=>k_is); (case k=>k_is)
  case d_segment_name=>refine' Qh.defIn_mk ?a ?l ?c ?k; (case a=>k_is); (case l=>k_is); (case c=>k_is); (case k=>k_is)
  case d_segment_of=>refine' Qh.defIn_mk ?a ?l ?c ?k; (case a=>k_is); (case l=>k_is); (case c=>k_is); (case k=>k_is)
  case d_segments_on=>refine' Qh.defIn_mk ?a ?l ?c ?k; (case a=>k_is); (case l=>k_is); (case c=>k_is); (case k=>k_is)
  case d_is_word=>refine' Qh.defIn_mk ?a ?l ?c ?k; (case a=>k_is); (case l=>k_is); (case c=>k_is); (case k=>k_is)
  case d_check_name=>refine' Qh.defIn_mk ?a ?l ?c ?k; (case a=>k_is); (case l=>k_is); (case c=>k_is); (case k=>k_is)
  case d_is_bytes=>refine' Qh.defIn_mk ?a ?l ?c ?k; (case a=>k_is); (case l=>k_is); (case c=>k_is); (case k=>k_is)
  case d_fits_kind=>refine' Qh.defIn_mk ?a ?l ?c ?k; (case a=>k_is); (case l=>k_is); (case c=>k_is); (case k=>k_is)
  case d_is_row=>refine' Qh.defIn_mk ?a ?l ?c ?k; (case a=>k_is); (case l=>k_is); (case c=>k_is); (case k=>k_is)
  case d_check_body=>refine' Qh.defIn_mk ?a ?l ?c ?k; (case a=>k_is); (case l=>k_is); (case c=>k_is); (case k=>k_is)
  case d_checks_of=>refine' Qh.defIn_mk ?a ?l ?c ?k; (case a=>k_is); (case l=>k_is); (case c=>k_is); (case k=>k_is)
  case d_row_bytes=>refine' Qh.defIn_mk ?a ?l ?c ?k; (case a=>k_is); (case l=>k_is); (case c=>k_is); (case k=>k_is)
  case d_row_end=>refine' Qh.defIn_mk ?a ?l ?c ?k; (case a=>k_is); (case l=>k_is); (case c=>k_is); (case k=>k_is)
  case d_row_from=>refine' Qh.defIn_mk ?a ?l ?c ?k; (case a=>k_is); (case l=>k_is); (case c=>k_is); (case k=>k_is)
  case d_rows_in=>refine' Qh.defIn_mk ?a ?l ?c ?k; (case a=>k_is); (case l=>k_is); (case c=>k_is); (case k=>k_is)
  case d_without_last_parts=>refine' Qh.defIn_mk ?a ?l ?c ?k; (case a=>k_is); (case l=>k_is); (case c=>k_is); (case k=>k_is)
  case d_make_good=>refine' Qh.defIn_mk ?a ?l ?c ?k; (case a=>k_is); (case l=>k_is); (case c=>k_is); (case k=>k_is)
  case d_check_bodies=>refine' Qh.defIn_mk ?a ?l ?c ?k; (case a=>k_is); (case l=>k_is); (case c=>k_is); (case k=>k_is)
  case d_check_hand=>refine' Qh.defIn_mk ?a ?l ?c ?k; (case a=>k_is); (case l=>k_is); (case c=>k_is); (case k=>k_is)
  case d__law_cell=>refine' Qh.defIn_mk ?a ?l ?c ?k; (case a=>k_is); (case l=>k_is); (case c=>k_is); (case k=>k_is)
  case d__law_mix=>refine' Qh.defIn_mk ?a ?l ?c ?k; (case a=>k_is); (case l=>k_is); (case c=>k_is); (case k=>k_is)
  case d_check_settings=>refine' Qh.defIn_mk ?a ?l ?c ?k; (case a=>k_is); (case l=>k_is); (case c=>k_is); (case k=>k_is)
  case d_rows_of=>refine' Qh.defIn_mk ?a ?l ?c ?k; (case a=>k_is); (case l=>k_is); (case c=>k_is); (case k=>k_is)
  case d_book_of=>refine' Qh.defIn_mk ?a ?l ?c ?k; (case a=>k_is); (case l=>k_is); (case c=>k_is); (case k=>k_is)
  case d__law_queue=>refine' Qh.defIn_mk ?a ?l ?c ?k; (case a=>k_is); (case l=>k_is); (case c=>k_is); (case k=>k_is)
  case d__law_copy=>refine' Qh.defIn_mk ?a ?l ?c ?k; (case a=>k_is); (case l=>k_is); (case c=>k_is); (case k=>k_is)
  (case b_Disk=>k_is)
  (case pg_Disk=>k_is)
  (case hd_Disk=>k_is)
  (case po_Disk=>k_is)
  (case sa_Disk=>k_is)
  (case mk_Disk=>k_is)
  (case kc_Disk=>k_is)
  (case n_Disk_files=>k_is)
  (case n_Disk_steps_done=>k_is)
  (case n_Disk_steps_ahead=>k_is)
  case e_Disk___init__=>refine' Qh.methIn_mk ?a ?i ?l ?c ?k; (case a=>k_is); (case i=>k_is); (case l=>k_is); (case c=>k_is); (case k=>k_is)
  case e_Disk_names=>refine' Qh.methIn_mk ?a ?i ?l ?c ?k; (case a=>k_is); (case i=>k_is); (case l=>k_is); (case c=>k_is); (case k=>k_is)
  case e_Disk_check_file=>refine' Qh.methIn_mk ?a ?i ?l ?c ?k; (case a=>k_is); (case i=>k_is); (case l=>k_is); (case c=>k_is); (case k=>k_is)
  case e_Disk_size=>refine' Qh.methIn_mk ?a ?i ?l ?c ?k; (case a=>k_is); (case i=>k_is); (case l=>k_is); (case c=>k_is); (case k=>k_is)
  case e_Disk_read=>refine' Qh.methIn_mk ?a ?i ?l ?c ?k; (case a=>k_is); (case i=>k_is); (case l=>k_is); (case c=>k_is); (case k=>k_is)
  case e_Disk_count_step=>refine' Qh.methIn_mk ?a ?i ?l ?c ?k; (case a=>k_is); (case i=>k_is); (case l=>k_is); (case c=>k_is); (case k=>k_is)
  case e_Disk_make=>refine' Qh.methIn_mk ?a ?i ?l ?c ?k; (case a=>k_is); (case i=>k_is); (case l=>k_is); (case c=>k_is); (case k=>k_is)
  case e_Disk_drop=>refine' Qh.methIn_mk ?a ?i ?l ?c ?k; (case a=>k_is); (case i=>k_is); (case l=>k_is); (case c=>k_is); (case k=>k_is)
  case e_Disk_cut=>refine' Qh.methIn_mk ?a ?i ?l ?c ?k; (case a=>k_is); (case i=>k_is); (case l=>k_is); (case c=>k_is); (case k=>k_is)
  case e_Disk_add=>refine' Qh.methIn_mk ?a ?i ?l ?c ?k; (case a=>k_is); (case i=>k_is); (case l=>k_is); (case c=>k_is); (case k=>k_is)
  (case b_Queue=>k_is)
  (case pg_Queue=>k_is)
  (case hd_Queue=>k_is)
  (case po_Queue=>k_is)
  (case sa_Queue=>k_is)
  (case mk_Queue=>k_is)
  (case kc_Queue=>k_is)
  (case n_Queue_disk=>k_is)
  (case n_Queue_most=>k_is)
  (case n_Queue_hold=>k_is)
  (case n_Queue_tries=>k_is)
  (case n_Queue_book=>k_is)
  (case n_Queue_first=>k_is)
  (case n_Queue_last=>k_is)
  (case n_Queue_writing=>k_is)
  (case n_Queue_holders=>k_is)
  (case n_Queue_now=>k_is)
  case e_Queue_sizes=>refine' Qh.methIn_mk ?a ?i ?l ?c ?k; (case a=>k_is); (case i=>k_is); (case l=>k_is); (case c=>k_is); (case k=>k_is)
  case e_Queue_letters=>refine' Qh.methIn_mk ?a ?i ?l ?c ?k; (case a=>k_is); (case i=>k_is); (case l=>k_is); (case c=>k_is); (case k=>k_is)
  case e_Queue_coming=>refine' Qh.methIn_mk ?a ?i ?l ?c ?k; (case a=>k_is); (case i=>k_is); (case l=>k_is); (case c=>k_is); (case k=>k_is)
  case e_Queue_is_last_full=>refine' Qh.methIn_mk ?a ?i ?l ?c ?k; (case a=>k_is); (case i=>k_is); (case l=>k_is); (case c=>k_is); (case k=>k_is)
  case e_Queue_begin_segment=>refine' Qh.methIn_mk ?a ?i ?l ?c ?k; (case a=>k_is); (case i=>k_is); (case l=>k_is); (case c=>k_is); (case k=>k_is)
  case e_Queue_write=>refine' Qh.methIn_mk ?a ?i ?l ?c ?k; (case a=>k_is); (case i=>k_is); (case l=>k_is); (case c=>k_is); (case k=>k_is)
  case e_Queue_put=>refine' Qh.methIn_mk ?a ?i ?l ?c ?k; (case a=>k_is); (case i=>k_is); (case l=>k_is); (case c=>k_is); (case k=>k_is)
  case e_Queue_put_all=>refine' Qh.methIn_mk ?a ?i ?l ?c ?k; (case a=>k_is); (case i=>k_is); (case l=>k_is); (case c=>k_is); (case k=>k_is)
  case e_Queue_free_letters=>refine' Qh.methIn_mk ?a ?i ?l ?c ?k; (case a=>k_is); (case i=>k_is); (case l=>k_is); (case c=>k_is); (case k=>k_is)
  case e_Queue_ready=>refine' Qh.methIn_mk ?a ?i ?l ?c ?k; (case a=>k_is); (case i=>k_is); (case l=>k_is); (case c=>k_is); (case k=>k_is)
  case e_Queue_take=>refine' Qh.methIn_mk ?a ?i ?l ?c ?k; (case a=>k_is); (case i=>k_is); (case l=>k_is); (case c=>k_is); (case k=>k_is)
  case e_Queue_check_held=>refine' Qh.methIn_mk ?a ?i ?l ?c ?k; (case a=>k_is); (case i=>k_is); (case l=>k_is); (case c=>k_is); (case k=>k_is)
  case e_Queue_done=>refine' Qh.methIn_mk ?a ?i ?l ?c ?k; (case a=>k_is); (case i=>k_is); (case l=>k_is); (case c=>k_is); (case k=>k_is)
  case e_Queue_drop_first=>refine' Qh.methIn_mk ?a ?i ?l ?c ?k; (case a=>k_is); (case i=>k_is); (case l=>k_is); (case c=>k_is); (case k=>k_is)
  case e_Queue_carry=>refine' Qh.methIn_mk ?a ?i ?l ?c ?k; (case a=>k_is); (case i=>k_is); (case l=>k_is); (case c=>k_is); (case k=>k_is)
  case e_Queue_sweep=>refine' Qh.methIn_mk ?a ?i ?l ?c ?k; (case a=>k_is); (case i=>k_is); (case l=>k_is); (case c=>k_is); (case k=>k_is)
  case e_Queue___init__=>refine' Qh.methIn_mk ?a ?i ?l ?c ?k; (case a=>k_is); (case i=>k_is); (case l=>k_is); (case c=>k_is); (case k=>k_is)
  (case b_Book=>k_is)
  (case pg_Book=>k_is)
  (case hd_Book=>k_is)
  (case po_Book=>k_is)
  (case sa_Book=>k_is)
  (case mk_Book=>k_is)
  (case kc_Book=>k_is)
  (case n_Book_entries=>k_is)
  (case n_Book_upcoming=>k_is)
  (case n_Book_parts=>k_is)
  case e_Book_letter=>refine' Qh.methIn_mk ?a ?i ?l ?c ?k; (case a=>k_is); (case i=>k_is); (case l=>k_is); (case c=>k_is); (case k=>k_is)
  case e_Book_letters=>refine' Qh.methIn_mk ?a ?i ?l ?c ?k; (case a=>k_is); (case i=>k_is); (case l=>k_is); (case c=>k_is); (case k=>k_is)
  case e_Book_enter_put=>refine' Qh.methIn_mk ?a ?i ?l ?c ?k; (case a=>k_is); (case i=>k_is); (case l=>k_is); (case c=>k_is); (case k=>k_is)
  case e_Book_enter_deal=>refine' Qh.methIn_mk ?a ?i ?l ?c ?k; (case a=>k_is); (case i=>k_is); (case l=>k_is); (case c=>k_is); (case k=>k_is)
  case e_Book_change_entry=>refine' Qh.methIn_mk ?a ?i ?l ?c ?k; (case a=>k_is); (case i=>k_is); (case l=>k_is); (case c=>k_is); (case k=>k_is)
  case e_Book_enter=>refine' Qh.methIn_mk ?a ?i ?l ?c ?k; (case a=>k_is); (case i=>k_is); (case l=>k_is); (case c=>k_is); (case k=>k_is)
  case e_Book_numbers_in=>refine' Qh.methIn_mk ?a ?i ?l ?c ?k; (case a=>k_is); (case i=>k_is); (case l=>k_is); (case c=>k_is); (case k=>k_is)
  case e_Book___init__=>refine' Qh.methIn_mk ?a ?i ?l ?c ?k; (case a=>k_is); (case i=>k_is); (case l=>k_is); (case c=>k_is); (case k=>k_is)
  (case aL=>k_is)
  (case lL=>k_is)
  (case cL=>k_is)
  (case kL=>k_is)
  (case z_len=>k_is)
  (case z_isinstance=>k_is)
  (case z_all=>k_is)
  (case z_sum=>k_is)
  (case z_tuple=>k_is)
  (case z_int=>k_is)
  (case z_bool=>k_is)
  (case z_str=>k_is)
  (case z_range=>k_is)
  (case z_enumerate=>k_is)
  (case z_list=>k_is)
  (case z_max=>k_is)
  (case z_min=>k_is)
  (case z_sorted=>k_is)
  (case v_HIGHEST_BYTE=>k_is)
  (case v_HIGHEST_NUMBER=>k_is)
  (case v_LONGEST_BODY=>k_is)
  (case v_HIGHEST_TIMES=>k_is)
  (case v_LARGEST_DEAL=>k_is)
  (case v_CHECKS_SIZE=>k_is)
  (case v_HEAD_SIZE=>k_is)
  (case v_LARGEST_MOST=>k_is)
  (case v_LONGEST_HOLD=>k_is)
  (case v_HIGHEST_TRIES=>k_is)
  (case v_LONGEST_HAND=>k_is)
  (case v_LONGEST_NAME=>k_is)
  (case v_MOST_STEPS=>k_is)
  (case v_NAME_SIGNS=>k_is)
  (case v_HAND_SIGNS=>k_is)
  (case aK=>k_is)
  (case qK=>exact rfl)
  (case a_BadName=>k_is)
  (case x_BadName=>exact rfl)
  (case a_Missing=>k_is)
  (case x_Missing=>exact rfl)
  (case a_There=>k_is)
  (case x_There=>exact rfl)
  (case a_Stopped=>k_is)
  (case x_Stopped=>exact rfl)
  (case a_Broken=>k_is)
  (case x_Broken=>exact rfl)
  (case a_BadRow=>k_is)
  (case x_BadRow=>exact rfl)
  (case a_BadSettings=>k_is)
  (case x_BadSettings=>exact rfl)
  (case a_BadBody=>k_is)
  (case x_BadBody=>exact rfl)
  (case a_BadHand=>k_is)
  (case x_BadHand=>exact rfl)
  (case a_BadNumber=>k_is)
  (case x_BadNumber=>exact rfl)
  (case a_NotHeld=>k_is)
  (case x_NotHeld=>exact rfl)
end

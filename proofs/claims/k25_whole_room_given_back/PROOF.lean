import PyProof.Rows.All
import Wide.All
import OpenK.AllK
import Wide.FinOn
import Lean
import PyProof.EqAt
import PyProof.EqKinds
import PyProof.TupleCall
import PySem.Challenge.RW_queuehold_k25_whole_room_given_back
set_option Elab.async false
set_option linter.all false
set_option maxRecDepth 100000
theorem ucs {P:List PySem.Value->Prop} {n:Nat} (h:∀ a us,us.length=n->P (a::us)):∀ us,us.length=n+1->P us:=fun us hl=>by
 cases us with
 | nil=>cases hl
 | cons a r=>exact h a r (Nat.succ.inj hl)
theorem usn {P:List PySem.Value->Prop} (h:P []):∀ us,us.length=0->P us:=fun us hl=>by
 cases us with
 | nil=>exact h
 | cons a r=>cases hl
theorem uS1 {P:List PySem.Value->Prop} (h:∀ a,P [a]):∀ us,us.length=1->P us:=ucs fun a=>usn (h a)
theorem uS2 {P:List PySem.Value->Prop} (h:∀ a b,P [a,b]):∀ us,us.length=2->P us:=ucs fun a=>ucs fun b=>usn (h a b)
theorem uS3 {P:List PySem.Value->Prop} (h:∀ a b c,P [a,b,c]):∀ us,us.length=3->P us:=ucs fun a=>ucs fun b=>ucs fun c=>usn (h a b c)
theorem uS4 {P:List PySem.Value->Prop} (h:∀ a b c d,P [a,b,c,d]):∀ us,us.length=4->P us:=ucs fun a=>ucs fun b=>ucs fun c=>ucs fun d=>usn (h a b c d)
theorem uS5 {P:List PySem.Value->Prop} (h:∀ a b c d e,P [a,b,c,d,e]):∀ us,us.length=5->P us:=ucs fun a=>ucs fun b=>ucs fun c=>ucs fun d=>ucs fun e=>usn (h a b c d e)
section
-- CHANGE: your row's module here,as the last of these rows
namespace L2
open PySem PySem.Spec PyProof.Rows
noncomputable abbrev Key:=Sum Int Str
noncomputable def vK:Key->Value->Bool
 | .inl k,v=>Value.isInt k v
 | .inr x,v=>Value.isStrOf x v
noncomputable def keyH (w:World):Key->Int
 | .inl k=>hashInt k
 | .inr x=>hashStr w x
theorem cM:∀ {k:Key} {v:Value},vK k v=true->(∃ i t,k=Sum.inl i/\v=Value.int i t)\/(∃ x t,k=Sum.inr x/\v=Value.str x t)
 | .inl i,v,h=>by
  obtain⟨t,e⟩:=Value.isInt_shape (k:=i) (v:=v) h
  exact .inl ⟨i,t,rfl,e⟩
 | .inr x,v,h=>by
  obtain⟨t,e⟩:=Value.isStrOf_shape (x:=x) (v:=v) h
  exact .inr ⟨x,t,rfl,e⟩
theorem CY (i:Int) (t:Tok):vK (.inl i) (.int i t)=true:=by simp [vK,Value.isInt]
theorem CW (x:Str) (t:Tok):vK (.inr x) (.str x t)=true:=by simp [vK,Value.isStrOf]
theorem GZ (a b:Int):decide ((Sum.inl a:Key)=Sum.inl b)=(a == b):=by
 by_cases e:a=b
 ·subst e; simp
 ·have h:¬ (Sum.inl a:Key)=Sum.inl b:=fun q=>e (Sum.inl.inj q)
  rw[decide_eq_false h]
  exact(beq_eq_false_iff_ne.mpr e).symm
theorem GW (a b:Str):decide ((Sum.inr a:Key)=Sum.inr b)=decide (a=b):=by
 by_cases e:a=b
 ·subst e; simp
 ·have h:¬ (Sum.inr a:Key)=Sum.inr b:=fun q=>e (Sum.inr.inj q)
  rw[decide_eq_false h,decide_eq_false e]
theorem GY (a:Int) (b:Str):decide ((Sum.inl a:Key)=Sum.inr b)=false:=decide_eq_false (fun q=>nomatch q)
theorem GX (a:Str) (b:Int):decide ((Sum.inr a:Key)=Sum.inl b)=false:=decide_eq_false (fun q=>nomatch q)
noncomputable def cE (prog:Program) (w:World):PySem.KeyKind prog w Key where
 is:=vK
 hash:=keyH w
 inj:=fun v a b ha hb=>by
  rcases cM ha with ⟨i,t,rfl,rfl⟩ | ⟨x,t,rfl,rfl⟩
  ·rcases cM hb with ⟨j,u,rfl,e⟩ | ⟨y,u,rfl,e⟩
   ·injection e with e1 _; rw[e1]
   ·exact nomatch e
  ·rcases cM hb with ⟨j,u,rfl,e⟩ | ⟨y,u,rfl,e⟩
   ·exact nomatch e
   ·injection e with e1 _; rw[e1]
 byValue:=fun k v h=>by
  rcases cM h with ⟨i,t,rfl,rfl⟩ | ⟨x,t,rfl,rfl⟩ <;> rfl
 pyHash:=fun hv h=>by
  rcases cM hv with ⟨i,t,rfl,rfl⟩ | ⟨x,t,rfl,rfl⟩
  ·exact wpAny_pyHash_int h
  ·exact wpAny_pyHash_str h
 eqBool:=fun hu hv h=>by
  rcases cM hu with ⟨i,t,rfl,rfl⟩ | ⟨x,t,rfl,rfl⟩
  ·rcases cM hv with ⟨j,u,rfl,rfl⟩ | ⟨y,u,rfl,rfl⟩
   ·rw[GZ]at h; exact wpAny_eqBool_int h
   ·rw[GY]at h; exact SeqAt.EqAt.int_str i t y u _ _ _ _ h
  ·rcases cM hv with ⟨j,u,rfl,rfl⟩ | ⟨y,u,rfl,rfl⟩
   ·rw[GX]at h; exact SeqAt.EqAt.str_int x t j u _ _ _ _ h
   ·rw[GW]at h; exact wpAny_eqBool_str h
 «strs»:=fun k x t v h=>by
  rcases cM h with ⟨i,u,rfl,e⟩ | ⟨y,u,rfl,e⟩
  ·exact nomatch e
  ·injection e with e1 _
   subst e1
   cases v <;> rfl
theorem zC (prog:Program) (w:World) (i:Int) (t:Tok):(cE prog w).is (.inl i) (.int i t)=true:=CY i t
theorem zB (prog:Program) (w:World) (x:Str) (t:Tok):(cE prog w).is (.inr x) (.str x t)=true:=CW x t
end L2
namespace L2
open PySem PySem.Spec PyProof.Rows
inductive V where
 | non | bl (b:Bool) | int (i:Int) | str (x:Str) | byt (b:Array UInt8) | flt (b:UInt64) | ref (a:Addr) | ty (n:String)
 deriving DecidableEq
noncomputable def bU:V->Value->Prop
 | .non,u=>u=Value.none
 | .bl b,u=>u=Value.bool b
 | .int i,u=>∃ t,u=Value.int i t
 | .str x,u=>∃ t,u=Value.str x t
 | .byt b,u=>∃ t,u=Value.bytes b t
 | .flt b,u=>∃ t,u=Value.float b t
 | .ref a,u=>u=Value.ref a
 | .ty n,u=>u=Value.type n
noncomputable abbrev bQ:List V->List Value->Prop:=Paired bU
theorem bQ.length {xs:List V} {us:List Value} (r:bQ xs us):xs.length=us.length:=Paired.length r
theorem bQ.get:∀ {xs:List V} {us:List Value} {i:Nat} {x:V},bQ xs us->xs[i]? = some x->∃ u,us[i]? = some u/\bU x u
 | _,_,_,_,.nil,e=>by simp at e
 | _,_,0,_,.cons r _,e=>by simp at e; subst e; exact⟨_,rfl,r⟩
 | _,_,i+1,x,.cons _ t,e=>by
  obtain⟨u,h1,h2⟩:=bQ.get (i:=i) (x:=x) t (by simpa using e)
  exact⟨u,by simpa using h1,h2⟩
theorem bQ.append:∀ {xs ys:List V} {us ws:List Value},bQ xs us->bQ ys ws->bQ (xs++ys) (us++ws)
 | _,_,_,_,.nil,s=>s
 | _,_,_,_,.cons r t,s=>.cons r (bQ.append t s)
theorem bQ.take:∀ {xs:List V} {us:List Value} (n:Nat),bQ xs us->bQ (xs.take n) (us.take n)
 | _,_,0,_=>.nil
 | _,_,_+1,.nil=>.nil
 | _,_,n+1,.cons r t=>.cons r (bQ.take n t)
theorem bQ.drop:∀ {xs:List V} {us:List Value} (n:Nat),bQ xs us->bQ (xs.drop n) (us.drop n)
 | _,_,0,r=>r
 | _,_,_+1,.nil=>.nil
 | _,_,n+1,.cons _ t=>bQ.drop n t
noncomputable def lH:Option V->Option Value->Prop
 | some v,some u=>bU v u
 | none,none=>True
 | _,_=>False
noncomputable def KV {κ : Type}:List (κ × V)->List (κ × Value)->Prop:=Paired fun(p:κ × V) (q:κ × Value)=>p.1=q.1/\bU p.2 q.2
noncomputable def kV:Key->V
 | .inl i=>.int i
 | .inr x=>.str x
inductive HO where
  | lst (xs:List V)
  | tup (xs:List V)
  | dK (kvs:List (Key × V)) | dT (kvs:List (List Key × V))
  | set (S:Int->Bool) (n:Nat)
  | ins (C dx:Addr) (fs:List (Str × V))
  | own (x:Addr)
  | xd (fs:List (Str × V))
  | met (f x:Addr)
  | rng (lo hi:Int)
  | frz (o:Obj) (u:HO)
  | tbl (ps:Array Value)
  | ext (φ : Heap->Prop)
noncomputable abbrev Hp:=Addr->Option HO
noncomputable def upd (H:Hp) (a:Addr) (o:HO):Hp:=fun b=>if b=a then some o else H b
theorem aE {H:Hp} {a:Addr} {o:HO}:upd H a o a=some o:=by unfold upd; rw[if_pos rfl]
theorem aG {H:Hp} {a b:Addr} {o:HO} (h:b≠a):upd H a o b=H b:=by unfold upd; rw[if_neg h]
theorem ne_of {H:Hp} {a b:Addr} {o u:HO} (h:H a=some o) (h':H b=some u) (d:o≠u):a≠b:=by
 intro e; subst e; rw[h]at h'; exact d (Option.some.inj h')
theorem aY {H:Hp} {a b:Addr} {o:HO} (h:H a=some o) (h':H b=none):a≠b:=by
 intro e; subst e; rw[h]at h'; cases h'
section
variable (P:Program) (w:World)
noncomputable def dI (H:Hp) (h:Heap) (a:Addr):HO->Prop
 | .lst xs=>xs.length<=sizeLine/\∃ (its:List Value) (n:Nat),bQ xs its/\h.get? a=some { cls:=.type "list",data:=.seq its.toArray n }
 | .tup xs=>xs.length<=sizeLine/\∃ its:List Value,bQ xs its/\IsTup h a its.toArray
 | .dK kvs=>kvs.length<=sizeLine/\(a == sysModules)=false/\∃ vs,KV kvs vs/\h.DictOf (cE P w) a vs
 | .dT kvs=>kvs.length<=sizeLine/\(a == sysModules)=false/\∃ xs:List (List Key × Addr × Value),
   Paired (fun(p:List Key × V) (q:List Key × Addr × Value)=>p.1=q.1/\H q.2.1=some (.tup (p.1.map kV))/\bU p.2 q.2.2) kvs xs/\
   ∃ o es ep,h.get? a=some o/\o.ExactDict/\o.data = .dict es ep/\es.toList=xs.map (entryOfKey (tupleKind (cE P w)))/\(xs.map (·.1)).Nodup
 | .set S n=>h.SetOf (intKind P w) a S n
 | .ins C dx fs=>H dx=some (.own a)/\fs.length<=1000/\dx≠a/\h.get? a=some (PySem.W.instObj C dx)/\
   ∃ mA,h.Ns1 dx mA/\(∀ f,lH (fs.lookup f) (mA f))/\PySem.Within mA (fs.map (·.1))
 | .own _=>∃ o,h.get? a=some o
 | .xd fs=>∃ mA,h.Ns1 a mA/\∀ f,lH (fs.lookup f) (mA f)
 | .rng lo hi=>∃ t u v,h.get? a=some { cls:=.type "range",data:=.fields #[.int lo t,.int hi u,.int 1 v] }
 | .frz o u=>h.get? a=some o/\dI H h a u
 | .tbl ps=>h.get? a=some { cls:=.none,data:=.fields ps }
 | .met f x=>h.get? a=some (PySem.W.methodObj (.ref f) (.ref x))
 | .ext φ=>φ h/\(∃ o,h.get? a=some o)/\∀ h1 h2:Heap,φ h1->(∀ o,h1.get? a=some o->h2.get? a=some o)->φ h2
noncomputable def HOk (H:Hp) (h:Heap):Prop:=∀ a o,H a=some o->dI P w H h a o
end
section
variable {P:Program} {w:World} {H H':Hp} {h h':Heap} {a:Addr} {o:HO}
theorem dI.lt (x:dI P w H h a o):a<h.objs.size:=by
 cases o with
 | lst xs=>obtain⟨_,_,_,_,e⟩:=x; exact Heap.lt_size e
 | tup xs=>obtain⟨_,_,_,p⟩:=x; exact p.lt
 | dK kvs=>obtain⟨_,_,_,_,o,_,_,e,_⟩:=x; exact Heap.lt_size e
 | dT kvs=>obtain⟨_,_,_,_,o,_,_,e,_⟩:=x; exact Heap.lt_size e
 | set S n=>obtain⟨o,_,_,_,e,_⟩:=x; exact Heap.lt_size e
 | ins C dx fs=>obtain⟨_,_,_,e,_⟩:=x; exact Heap.lt_size e
 | own y=>obtain⟨_,e⟩:=x; exact Heap.lt_size e
 | xd fs=>obtain⟨_,⟨_,_,_,e,_⟩,_⟩:=x; exact Heap.lt_size e
 | rng lo hi=>obtain⟨_,_,_,e⟩:=x; exact Heap.lt_size e
 | frz ob u=>obtain⟨e,_⟩:=x; exact Heap.lt_size e
 | tbl ps=>exact Heap.lt_size (show h.get? a=some _ from x)
 | met f y=>exact Heap.lt_size (show h.get? a=some _ from x)
 | ext φ=>obtain⟨_,⟨_,e⟩,_⟩:=x; exact Heap.lt_size e
theorem Paired.mapP {α β : Type} {F G:α->β->Prop}:∀ {l₁ : List α} {l₂ : List β},Paired F l₁ l₂->(∀ a b,F a b->G a b)->Paired G l₁ l₂
 | _,_,.nil,_=>.nil
 | _,_,.cons r t,f=>.cons (f _ _ r) (Paired.mapP t f)
theorem dI.stay (x:dI P w H h a o) (k:∀ b u,(b=a\/H b=some (.own a))->h.get? b=some u->h'.get? b=some u)
  (ho:∀ b,H b=some (.own a)->H' b=some (.own a)) (ht:∀ b xs,H b=some (.tup xs)->H' b=some (.tup xs)):dI P w H' h' a o:=by
 induction o with
 | lst xs=>obtain⟨z,its,n,r,e⟩:=x; exact⟨z,its,n,r,k _ _ (.inl rfl) e⟩
 | tup xs=>obtain⟨z,its,r,ob,e,c⟩:=x; exact⟨z,its,r,ob,k _ _ (.inl rfl) e,c⟩
 | dK kvs=>obtain⟨z,y,vs,r,ob,es,ep,e,c⟩:=x; exact⟨z,y,vs,r,ob,es,ep,k _ _ (.inl rfl) e,c⟩
 | dT kvs=>
  obtain⟨z,y,xs,r,ob,es,ep,e,c⟩:=x
  exact⟨z,y,xs,Paired.mapP r fun p q z=>⟨z.1,ht _ _ z.2.1,z.2.2⟩,ob,es,ep,k _ _ (.inl rfl) e,c⟩
 | set S n=>obtain⟨ob,es,ep,t,e,c⟩:=x; exact⟨ob,es,ep,t,k _ _ (.inl rfl) e,c⟩
 | ins C dx fs=>
  obtain⟨d,z,ne,e,mA,⟨od,es,ep,e2,c⟩,r⟩:=x
  exact⟨ho _ d,z,ne,k _ _ (.inl rfl) e,mA,⟨od,es,ep,k _ _ (.inr d) e2,c⟩,r⟩
 | own y=>obtain⟨ob,e⟩:=x; exact⟨ob,k _ _ (.inl rfl) e⟩
 | xd fs=>obtain⟨mA,⟨od,es,ep,e,c⟩,r⟩:=x; exact⟨mA,⟨od,es,ep,k _ _ (.inl rfl) e,c⟩,r⟩
 | rng lo hi=>obtain⟨t,u,v,e⟩:=x; exact⟨t,u,v,k _ _ (.inl rfl) e⟩
 | frz ob u ih=>obtain⟨e,q⟩:=x; exact⟨k _ _ (.inl rfl) e,ih q⟩
 | tbl ps=>
  have e:h.get? a=some { cls:=.none,data:=.fields ps }:=x
  show h'.get? a=some { cls:=.none,data:=.fields ps }
  exact k a _ (.inl rfl) e
 | met f y=>
  have e:h.get? a=some (PySem.W.methodObj (.ref f) (.ref y)):=x
  show h'.get? a=some (PySem.W.methodObj (.ref f) (.ref y))
  exact k a _ (.inl rfl) e
 | ext φ=>obtain⟨p,⟨o,e⟩,st⟩:=x; exact⟨st _ _ p fun o q=>k _ _ (.inl rfl) q,⟨o,k _ _ (.inl rfl) e⟩,st⟩
theorem HOk.lt (x:HOk P w H h) (e:H a=some o):a<h.objs.size:=(x a o e).lt
theorem HOk.fresh (x:HOk P w H h) (e:h.objs.size<=a):H a=none:=by
 cases q:H a with
 | none=>rfl
 | some u=>exact absurd (Nat.lt_of_lt_of_le (x.lt q) e) (Nat.lt_irrefl _)
theorem HOk.kept (x:HOk P w H h) (k:∀ b u,h.get? b=some u->h'.get? b=some u):HOk P w H h':=fun a o e=>
 (x a o e).stay (fun b u _ q=>k b u q) (fun _ q=>q) fun _ _ q=>q
theorem HOk.laid (x:HOk P w H h) (k:∀ b u,h.get? b=some u->h'.get? b=some u) (hp:h.objs.size<=a) (new:dI P w (upd H a o) h' a o):HOk P w (upd H a o) h':=fun b u e=>by
 have hn:=x.fresh hp
 by_cases hb:b=a
 ·subst hb; rw[aE]at e; cases e; exact new
 ·rw[aG hb]at e
  exact(x b u e).stay (fun c v _ q=>k c v q) (fun c q=>by rw[aG (aY q hn)]; exact q) fun c xs q=>by rw[aG (aY q hn)]; exact q
end
noncomputable def Rd (H:Hp) (a:Addr) (u:HO):Prop:=H a=some u\/∃ o,H a=some (.frz o u)
theorem Rd.ok {P:Program} {w:World} {H:Hp} {h:Heap} {a:Addr} {u:HO} (r:Rd H a u) (x:HOk P w H h):dI P w H h a u:=by
 rcases r with r | ⟨o,r⟩
 ·exact x a u r
 ·obtain⟨_,q⟩:=x a _ r
  exact q
noncomputable def Mut:Option HO->Prop
 | some (.lst _)=>True
 | some (.dK _)=>True
 | some (.dT _)=>True
 | some (.set _ _)=>True
 | some (.ins _ _ _)=>True
 | some (.ext _)=>True
 | _=>False
section
variable {P:Program} {w:World} {H:Hp} {h h':Heap} {x e:Addr} {o':HO}
theorem HOk.write (ok:HOk P w H h) (mu:Mut (H x)) (he:e=x\/H e=some (.own x)) (k:∀ b u,b≠e->h.get? b=some u->h'.get? b=some u) (heo:∃ u,h'.get? e=some u)
  (new:dI P w (upd H x o') h' x o'):HOk P w (upd H x o') h':=fun b u q=>by
 have nown:∀ c y,H c=some (.own y)->c≠x:=fun c y r z=>by subst z; rw[r]at mu; exact mu
 have ntup:∀ c xs,H c=some (.tup xs)->c≠x:=fun c xs r z=>by subst z; rw[r]at mu; exact mu
 by_cases hb:b=x
 ·subst hb; rw[aE]at q; cases q; exact new
 ·rw[aG hb]at q
  by_cases hbe:b=e
  ·have q':H b=some (.own x):=by
    rcases he with z | z
    ·exact absurd (hbe.trans z) hb
    ·rw[hbe]; exact z
   rw[q]at q'; cases q'
   obtain⟨v,hv⟩:=heo
   exact⟨v,by rw[hbe]; exact hv⟩
  ·refine(ok b u q).stay (fun c v hc r=>k c v ?_ r) (fun c r=>by rw[aG (nown c b r)]; exact r) fun c xs r=>by rw[aG (ntup c xs r)]; exact r
   rcases hc with rfl | hc
   ·exact hbe
   ·rintro rfl
    rcases he with z | z
    ·exact nown c b hc z
    ·rw[hc]at z; cases z; exact hb rfl
end
structure Un (fs ex:List Addr) (H H':Hp) (h h':Heap):Prop where
 keep:∀ b o,h.get? b=some o->H b=none->b ∉ fs->b ∉ ex->h'.get? b=some o
 slot:∀ b o,h.get? b=some o->H b=none->b∈fs->b ∉ ex->∃ sl,h'.get? b=some { o with slots:=sl }
 free:∀ b o,h.get? b=some o->H b=none->b ∉ ex->H' b=none
 there:∀ b o,h.get? b=some o->b ∉ ex->∃ o',h'.get? b=some o'
 tups:∀ b xs,H b=some (.tup xs)->H' b=some (.tup xs)
 frzs:∀ b o u,H b=some (.frz o u)->H' b=some (.frz o u)
 tbls:∀ b ps,H b=some (.tbl ps)->∃ more,H' b=some (.tbl (ps++more))
section
variable {fs fs' ex ex':List Addr} {H H1 H2:Hp} {h h1 h2 h':Heap} {a x e:Addr} {o:HO}
theorem Un.any (u:Un fs ex H H1 h h1) {b:Addr} {ob:Obj} (q:h.get? b=some ob) (n:H b=none) (hx:b ∉ ex):∃ sl,h1.get? b=some { ob with slots:=sl }:=by
 by_cases hb:b∈fs
 ·exact u.slot b ob q n hb hx
 ·exact⟨ob.slots,u.keep b ob q n hb hx⟩
theorem Un.kept (k:∀ b u,h.get? b=some u->h'.get? b=some u):Un fs ex H H h h':=
 ⟨fun b ob q _ _ _=>k b ob q,fun b ob q _ _ _=>⟨ob.slots,k b ob q⟩,fun _ _ _ n _=>n,fun b ob q _=>⟨ob,k b ob q⟩,fun _ _ q=>q,fun _ _ _ q=>q,fun _ ps q=>⟨#[],by rw[q]; simp⟩⟩
theorem Un.refl:Un fs ex H H h h:=Un.kept fun _ _ q=>q
theorem Un.laid (k:∀ b u,h.get? b=some u->h'.get? b=some u) (hp:h.objs.size<=a) (hn:H a=none):Un fs ex H (upd H a o) h h' where
 keep:=fun b u q _ _ _=>k b u q
 slot:=fun b u q _ _ _=>⟨u.slots,k b u q⟩
 free:=fun b u q n _=>by rw[aG (Nat.ne_of_lt (Nat.lt_of_lt_of_le (Heap.lt_size q) hp))]; exact n
 there:=fun b u q _=>⟨u,k b u q⟩
 tups:=fun b xs q=>by rw[aG (aY q hn)]; exact q
 frzs:=fun b u xs q=>by rw[aG (aY q hn)]; exact q
 tbls:=fun b ps q=>⟨#[],by rw[aG (aY q hn),q]; simp⟩
theorem Un.write (mu:Mut (H x)) (he:e=x\/H e=some (.own x)) (k:∀ b u,b≠e->h.get? b=some u->h'.get? b=some u) (heo:∃ u,h'.get? e=some u):Un fs ex H (upd H x o) h h':=by
 have hx:∀ b,H b=none->b≠x:=fun b n z=>by subst z; rw[n]at mu; exact mu
 have hb:∀ b,H b=none->b≠e:=fun b n z=>by
  subst z
  rcases he with r | r
  ·exact hx b n r
  ·rw[n]at r; cases r
 have hm:∀ b u,H b=some u->¬ Mut (some u)->b≠x:=fun b u q nm z=>by subst z; rw[q]at mu; exact nm mu
 refine⟨fun b u q n _ _=>k b u (hb b n) q,fun b u q n _ _=>⟨u.slots,k b u (hb b n) q⟩,fun b u q n _=>by rw[aG (hx b n)]; exact n,fun b u q _=>?_,
  fun b xs q=>by rw[aG (hm b _ q fun z=>z)]; exact q,fun b u xs q=>by rw[aG (hm b _ q fun z=>z)]; exact q,fun b ps q=>⟨#[],by rw[aG (hm b _ q fun z=>z),q]; simp⟩⟩
 by_cases hbe:b=e
 ·subst hbe; exact heo
 ·exact⟨u,k b u hbe q⟩
end
noncomputable def trk (h:Heap) (H:Hp):List Addr:=(List.range h.objs.size).filter fun a=>(H a).isSome
noncomputable def xW (h:Heap) (H:Hp):Heap:=PySem.W.hideAll h (trk h H)
theorem Cd (h:Heap) (H:Hp):(xW h H).objs.size=h.objs.size:=PySem.W.hideAll_size _ _
theorem D0 {h:Heap} {H:Hp} {b:Addr} {o:Obj} (e:h.get? b=some o) (n:H b=none):(xW h H).get? b=some o:=
 PySem.W.hideAll_get _ e fun hm=>by
  have q:(H b).isSome=true:=(List.mem_filter.mp hm).2
  rw[n]at q; simp at q
theorem FP {h:Heap} {H:Hp} {b:Addr} {o:Obj} (e:(xW h H).get? b=some o):h.get? b=some o/\H b=none:=by
 have e':h.get? b=some o:=PySem.W.of_hideAll (trk h H) e
 refine⟨e',?_⟩
 cases q:H b with
 | none=>rfl
 | some x=>
  have hm:b∈trk h H:=List.mem_filter.mpr ⟨List.mem_range.mpr (Heap.lt_size e'),by simp [q]⟩
  have z:(xW h H).get? b=none:=PySem.W.hideAll_none (trk h H) hm
  rw[z]at e; cases e
noncomputable def Fi (g h:Heap) (L:Addr):List (Addr × Obj):=(List.range h.objs.size).filterMap fun a=>if a=L\/(g.get? a).isSome=true then none else (h.get? a).map fun o=>(a,o)
noncomputable def rest (g h:Heap) (L d:Addr):List (Addr × Obj):=(Fi g h L).filter fun p=>decide (p.1≠d)
end L2
namespace L2
open PySem PySem.Spec PyProof.Rows
structure Mod (K:PySem.W.Frag) (mg:Str->Option Value) (base:Heap):Prop where
 kin:K.In base
 glob:base.Ns mainGlobals mg
 blt:∃ mb,base.Ns builtinsNs mb/\∀ x:Str,x ≠ "__name__"->mb x=bootBuiltins x
 nolimit:base.NoLimit
structure Cx where
 prog:Program
 w:World
 K:PySem.W.Frag
 mg:Str->Option Value
 base:Heap
 A:Around
 N:List Str
 s₀ : Shared
 H₀ : Hp
 env:Env
 outer:List Env
 stack:List Env
 ex:List Addr
 fn:Str->Bool
 calm:Bool
 pn:List (Addr × Obj)
 xe:Value->Shared->Prop
noncomputable def frs (l:List Env):List Addr:=l.filterMap (·.frame)
noncomputable abbrev Cx.fs (X:Cx):List Addr:=frs X.outer
noncomputable def Vis (sc:Scope) (x:Str):Prop:=sc.names.lookup x=some .local\/sc.names.lookup x=some .cell\/sc.names.lookup x=some .free
noncomputable def Loc (sc:Scope) (x:Str):Prop:=sc.names.lookup x=some .local\/sc.names.lookup x=some .cell
noncomputable def Look (env:Env) (h:Heap) (m:Str->Option Value) (x:Str) (u:Value):Prop:=
 (env.kindOf x=some .local/\m x=some u)\/((env.kindOf x=some .cell\/env.kindOf x=some .free)/\∃ c,env.cells.lookup x=some c/\h.IsCell c (some u))
structure Cx.Ok (X:Cx):Prop where
 mod:Mod X.K X.mg X.base
 kind:X.env.scope.kind = .function
 glob:X.env.globals=mainGlobals
 blt:X.env.builtins=builtinsNs
 above:X.s₀.heap.objs.size<=X.env.locals
 inj:∀ x y c,X.env.cells.lookup x=some c->X.env.cells.lookup y=some c->x=y
 has:∀ x,(X.env.kindOf x=some .cell\/X.env.kindOf x=some .free)->∃ c,X.env.cells.lookup x=some c
 cab:∀ x c,X.fn x=true->X.env.cells.lookup x=some c->X.s₀.heap.objs.size<=c
 hd:X.calm=true->X.A.handled=none
 frames:X.A.frames=some X.stack
 stk:X.stack=X.outer\/(X.stack=X.env::X.outer/\X.env.frame=some X.env.locals)
 exf:∀ b∈X.ex,b≠X.env.locals/\∀ x c,X.env.cells.lookup x=some c->c≠b
 bs:∀ b o,X.base.get? b=some o->X.s₀.heap.get? b=some o/\X.H₀ b=none
 bsz:X.base.objs.size<=X.s₀.heap.objs.size
 noex:∀ b o,X.base.get? b=some o->b ∉ X.ex
 exfs:∀ b∈X.ex,b ∉ X.fs
 funs:X.s₀.heap.FunFrames X.base X.outer
 frf:∀ b∈X.fs,X.H₀ b=none
structure Inv (X:Cx) (pins:List (Addr × Obj)) (σ : List (Option V)) (H:Hp) (s:Shared):Prop where
 ok:X.Ok
 os:s.os=X.s₀.os
 bare:AllBare s.gens
 base:Un X.fs X.ex X.H₀ H X.s₀.heap s.heap
 loc:∃ m,s.heap.Ns X.env.locals m/\∀ (i:Nat) (x:Str) (v:V),X.N[i]? = some x->σ[i]? = some (some v)->Vis X.env.scope x->∃ u,bU v u/\Look X.env s.heap m x u
 cell:∀ x c,X.env.cells.lookup x=some c->∃ v,s.heap.IsCell c v
 free:H X.env.locals=none
 freeC:∀ x c,X.env.cells.lookup x=some c->H c=none
 pin:∀ p∈X.pn++pins,s.heap.get? p.1=some p.2/\H p.1=none/\p.1≠X.env.locals/\p.1 ∉ X.fs/\∀ v,p.2.data ≠ .cell v
 hok:HOk X.prog X.w H s.heap
 len:σ.length=X.N.length
section
variable {X:Cx} {pins:List (Addr × Obj)} {σ : List (Option V)} {H H':Hp} {s:Shared} {h':Heap}
theorem Cx.Ok.nofr (ok:X.Ok) {b:Addr} {o:Obj} (e:X.base.get? b=some o):b ∉ X.fs:=fun hb=>by
 have:=(ok.funs.mem hb).1
 rw[e]at this; cases this
theorem Inv.bs (I:Inv X pins σ H s):∀ b o,X.base.get? b=some o->s.heap.get? b=some o/\H b=none:=fun b o e=>
 ⟨I.base.keep b o (I.ok.bs b o e).1 (I.ok.bs b o e).2 (I.ok.nofr e) (I.ok.noex b o e),I.base.free b o (I.ok.bs b o e).1 (I.ok.bs b o e).2 (I.ok.noex b o e)⟩
theorem Inv.bk (I:Inv X pins σ H s):∀ b o,X.base.get? b=some o->s.heap.get? b=some o:=fun b o e=>(I.bs b o e).1
theorem Inv.mod (I:Inv X pins σ H s):Mod X.K X.mg X.base:=I.ok.mod
theorem Inv.kIn (I:Inv X pins σ H s):X.K.In s.heap:=I.ok.mod.kin.keeps I.bk
theorem Inv.lt (I:Inv X pins σ H s):X.env.locals<s.heap.objs.size:=let ⟨_,hn,_⟩:=I.loc; hn.lt
theorem Inv.sz (I:Inv X pins σ H s):X.s₀.heap.objs.size<=s.heap.objs.size:=Nat.le_trans I.ok.above (Nat.le_of_lt I.lt)
theorem Inv.nofs (I:Inv X pins σ H s) {a:Addr} (h:s.heap.objs.size<=a):a ∉ X.fs:=fun hb=>by
 obtain⟨_,o,ho,_⟩:=I.ok.funs.mem hb
 exact absurd (Nat.lt_of_lt_of_le (Heap.lt_size ho) (Nat.le_trans I.sz h)) (Nat.lt_irrefl _)
theorem Inv.cne (I:Inv X pins σ H s):∀ x c,X.env.cells.lookup x=some c->c≠X.env.locals:=fun x c e z=>by
 obtain⟨v,o,ho,hd⟩:=I.cell x c e
 obtain⟨m,⟨o',es,ep,ho',hd',_⟩,_⟩:=I.loc
 rw[z,ho']at ho; cases ho; rw[hd']at hd; cases hd
theorem Inv.funs (I:Inv X pins σ H s):s.heap.FunFrames X.base X.outer:=by
 have all:∀ (l:List Env),(∀ b∈frs l,b∈X.fs)->X.s₀.heap.FunFrames X.base l->s.heap.FunFrames X.base l:=by
  intro l
  induction l with
  | nil=>intro _ _; trivial
  | cons env r ih=>
   intro hs hl
   obtain⟨hk,⟨L,o,hf,hn,ho,hd⟩,hr⟩:=hl
   have hL:L∈X.fs:=hs L (by unfold frs; rw[List.filterMap_cons,hf]; exact List.mem_cons_self)
   obtain⟨sl,e⟩:=I.base.slot L o ho (I.ok.frf L hL) hL fun z=>I.ok.exfs L z hL
   exact⟨hk,⟨L,_,hf,hn,e,hd⟩,ih (fun b hb=>hs b (by unfold frs; rw[List.filterMap_cons,hf]; exact List.mem_cons_of_mem _ hb)) hr⟩
 exact all X.outer (fun _ hb=>hb) I.ok.funs
theorem Inv.stack (I:Inv X pins σ H s):s.heap.FunFrames X.base X.stack:=by
 rcases I.ok.stk with e | ⟨e,hf⟩
 ·rw[e]; exact I.funs
 ·rw[e]
  obtain⟨m,hn,_⟩:=I.loc
  refine .cons (by rw[I.ok.kind]; decide) hf hn ?_ I.funs
  exact Heap.get?_none_of_le (Nat.le_trans I.ok.bsz I.ok.above)
theorem Inv.stkSub (I:Inv X pins σ H s):∀ b∈frs X.stack,b∈X.env.locals::X.fs:=fun b hb=>by
 rcases I.ok.stk with e | ⟨e,hf⟩
 ·rw[e]at hb; exact List.mem_cons_of_mem _ hb
 ·rw[e]at hb
  unfold frs at hb
  rw[List.filterMap_cons,hf]at hb
  exact hb
theorem Inv.stkFree (I:Inv X pins σ H s):∀ b∈frs X.stack,H b=none:=fun b hb=>by
 rcases List.mem_cons.mp (I.stkSub b hb) with e | hb
 ·rw[e]; exact I.free
 ·obtain⟨_,o,ho,_⟩:=I.ok.funs.mem hb
  exact I.base.free b o ho (I.ok.frf b hb) fun z=>I.ok.exfs b z hb
theorem Inv.step {g':Array GenState} {t':Nat} {d':Drawn} {ch:List Addr} (I:Inv X pins σ H s)
  (hch:∀ b∈ch,(b∈X.ex\/X.s₀.heap.objs.size<=b)/\b≠X.env.locals/\(∀ x c,X.env.cells.lookup x=some c->c≠b)/\∀ p∈X.pn++pins,p.1≠b)
  (keep:∀ b o,b≠X.env.locals->b ∉ X.fs->b ∉ ch->s.heap.get? b=some o->H b=none->h'.get? b=some o)
  (slot:∀ b o,b≠X.env.locals->b∈X.fs->b ∉ ch->s.heap.get? b=some o->H b=none->∃ sl,h'.get? b=some { o with slots:=sl }) (free:∀ b o,b ∉ ch->s.heap.get? b=some o->H b=none->H' b=none)
  (there:∀ b o,b ∉ ch->s.heap.get? b=some o->∃ o',h'.get? b=some o')
  (tups:∀ b xs,H b=some (.tup xs)->H' b=some (.tup xs)) (frzs:∀ b o u,H b=some (.frz o u)->H' b=some (.frz o u)) (tbls:∀ b ps,H b=some (.tbl ps)->∃ more,H' b=some (.tbl (ps++more)))
  (ns:∀ m,s.heap.Ns X.env.locals m->h'.Ns X.env.locals m) (hok:HOk X.prog X.w H' h') (hg:AllBare g') :
  Inv X pins σ H' { s with heap:=h',gens:=g',drawn:=d',toks:=t' }:=by
 have neL:∀ b o,X.s₀.heap.get? b=some o->b≠X.env.locals:=fun b o e=>Nat.ne_of_lt (Nat.lt_of_lt_of_le (Heap.lt_size e) I.ok.above)
 have neC:∀ b o,X.s₀.heap.get? b=some o->b ∉ X.ex->b ∉ ch:=fun b o e hx hb=>by
  rcases (hch b hb).1 with z | z
  ·exact hx z
  ·exact absurd (Nat.lt_of_lt_of_le (Heap.lt_size e) z) (Nat.lt_irrefl _)
 have cellK:∀ x c,X.env.cells.lookup x=some c->∀ v,s.heap.IsCell c v->h'.IsCell c v:=fun x c e v ⟨o,ho,hd⟩=>by
  have nch:c ∉ ch:=fun z=>(hch c z).2.2.1 x c e rfl
  by_cases hc:c∈X.fs
  ·obtain⟨sl,q⟩:=slot c o (I.cne x c e) hc nch ho (I.freeC x c e)
   exact⟨_,q,hd⟩
  ·exact⟨o,keep c o (I.cne x c e) hc nch ho (I.freeC x c e),hd⟩
 refine⟨I.ok,I.os,hg,⟨fun b o e n hb hx=>?_,fun b o e n hb hx=>?_,fun b o e n hx=>?_,fun b o e hx=>?_,fun b xs e=>tups b xs (I.base.tups b xs e),fun b o xs e=>frzs b o xs (I.base.frzs b o xs e),fun b ps e=>?_⟩,?_,fun x c e=>?_,?_,fun x c e=>?_,fun p hp=>?_,hok,I.len⟩
 ·exact keep b o (neL b o e) hb (neC b o e hx) (I.base.keep b o e n hb hx) (I.base.free b o e n hx)
 ·obtain⟨sl,e1⟩:=I.base.slot b o e n hb hx
  obtain⟨sl',e2⟩:=slot b _ (neL b o e) hb (neC b o e hx) e1 (I.base.free b o e n hx)
  exact⟨sl',e2⟩
 ·obtain⟨o',e1⟩:=I.base.there b o e hx
  exact free b o' (neC b o e hx) e1 (I.base.free b o e n hx)
 ·obtain⟨o',e1⟩:=I.base.there b o e hx
  exact there b o' (neC b o e hx) e1
 ·obtain⟨m1,e1⟩:=I.base.tbls b ps e
  obtain⟨m2,e2⟩:=tbls b _ e1
  exact⟨m1++m2,by rw[e2,Array.append_assoc]⟩
 ·obtain⟨m,hn,hl⟩:=I.loc
  refine⟨m,ns m hn,fun i x v e1 e2 e3=>?_⟩
  obtain⟨u,r,l⟩:=hl i x v e1 e2 e3
  refine⟨u,r,?_⟩
  rcases l with l | ⟨k,c,e,z⟩
  ·exact .inl l
  ·exact .inr ⟨k,c,e,cellK x c e _ z⟩
 ·obtain⟨v,z⟩:=I.cell x c e
  exact⟨v,cellK x c e v z⟩
 ·obtain⟨m,⟨o,_,_,ho,_⟩,_⟩:=I.loc
  exact free _ o (fun z=>(hch _ z).2.1 rfl) ho I.free
 ·obtain⟨v,o,ho,hd⟩:=I.cell x c e
  exact free c o (fun z=>(hch c z).2.2.1 x c e rfl) ho (I.freeC x c e)
 ·obtain⟨e,n,ne,nf,d⟩:=I.pin p hp
  have nch:p.1 ∉ ch:=fun z=>(hch p.1 z).2.2.2 p hp rfl
  exact⟨keep p.1 p.2 ne nf nch e n,free p.1 p.2 nch e n,ne,nf,d⟩
theorem Inv.un {t':Nat} (I:Inv X pins σ H s) (u:Un X.fs [] H H' s.heap h') (hok:HOk X.prog X.w H' h'):Inv X pins σ H' { s with heap:=h',toks:=t' }:=by
 obtain⟨m,⟨o,es,ep,ho,r⟩,_⟩:=id I.loc
 obtain⟨sl,hL⟩:=u.any ho I.free (by simp)
 exact I.step (g':=s.gens) (d':=s.drawn) (ch:=[]) (fun _ z=>nomatch z) (fun b o _ hb _ e n=>u.keep b o e n hb (by simp)) (fun b o _ hb _ e n=>u.slot b o e n hb (by simp)) (fun b o _ e n=>u.free b o e n (by simp)) (fun b o _ e=>u.there b o e (by simp)) u.tups u.frzs u.tbls (fun m' hm=>by
  obtain⟨o',es',ep',ho',r'⟩:=hm
  rw[ho]at ho'; cases ho'
  exact⟨_,es',ep',hL,r'⟩) hok I.bare
theorem Inv.call {g':Array GenState} {t':Nat} {d':Drawn} {ch:List Addr} (I:Inv X pins σ H s) (u:Un (frs X.stack) ch H H' s.heap h') (hok:HOk X.prog X.w H' h') (hg:AllBare g')
  (hch:∀ b∈ch,(b∈X.ex\/X.s₀.heap.objs.size<=b)/\b≠X.env.locals/\(∀ x c,X.env.cells.lookup x=some c->c≠b)/\∀ p∈X.pn++pins,p.1≠b) :
  Inv X pins σ H' { s with heap:=h',gens:=g',drawn:=d',toks:=t' }:=by
 obtain⟨m,⟨o,es,ep,ho,r⟩,_⟩:=id I.loc
 obtain⟨sl,hL⟩:=u.any ho I.free fun z=>(hch _ z).2.1 rfl
 exact I.step (ch:=ch) hch (fun b o hL hb hc e n=>u.keep b o e n (fun z=>(List.mem_cons.mp (I.stkSub b z)).elim hL hb) hc) (fun b o _ _ hc e n=>u.any e n hc) (fun b o hc e n=>u.free b o e n hc) (fun b o hc e=>u.there b o e hc) u.tups u.frzs u.tbls (fun m' hm=>by
  obtain⟨o',es',ep',ho',r'⟩:=hm
  rw[ho]at ho'; cases ho'
  exact⟨_,es',ep',hL,r'⟩) hok hg
theorem Inv.turned {t':Nat} {it:Addr} (I:Inv X pins σ H s) (k:∀ b o,b≠it->s.heap.get? b=some o->h'.get? b=some o) (hn:H it=none) (hL:it≠X.env.locals)
  (h1:it∈X.ex\/X.s₀.heap.objs.size<=it) (h2:∀ x c,X.env.cells.lookup x=some c->c≠it) (h3:∀ p∈X.pn++pins,p.1≠it):Inv X pins σ H { s with heap:=h',toks:=t' }:=by
 have nit:∀ b u,H b=some u->b≠it:=fun b u e z=>by rw[z,hn]at e; cases e
 refine I.step (g':=s.gens) (d':=s.drawn) (ch:=[it]) (fun b hb=>?_) (fun b o _ _ hc e _=>k b o (fun z=>hc (by simp [z])) e) (fun b o _ _ hc e _=>⟨o.slots,k b o (fun z=>hc (by simp [z])) e⟩) (fun _ _ _ _ n=>n)
  (fun b o hc e=>⟨o,k b o (fun z=>hc (by simp [z])) e⟩) (fun _ _ e=>e) (fun _ _ _ e=>e) (fun b ps e=>⟨#[],by rw[e]; simp⟩) (fun m hm=>?_) (fun b u e=>?_) I.bare
 ·have e:b=it:=by simpa using hb
  subst e
  exact⟨h1,hL,h2,h3⟩
 ·obtain⟨o,es,ep,ho,r⟩:=hm
  exact⟨o,es,ep,k _ o (Ne.symm hL) ho,r⟩
 ·refine(I.hok b u e).stay (fun c v hc q=>k c v ?_ q) (fun _ q=>q) fun _ _ q=>q
  rcases hc with z | z
  ·rw[z]; exact nit b u e
  ·exact nit c _ z
theorem Inv.tok (I:Inv X pins σ H s) (t:Nat):Inv X pins σ H { s with toks:=t }:=I.un (h':=s.heap) (t':=t) Un.refl I.hok
theorem Inv.kept {t':Nat} (I:Inv X pins σ H s) (k:∀ b u,s.heap.get? b=some u->h'.get? b=some u):Inv X pins σ H { s with heap:=h',toks:=t' }:=I.un (Un.kept k) (I.hok.kept k)
theorem Inv.laid {a:Addr} {o:HO} {t':Nat} (I:Inv X pins σ H s) (k:∀ b u,s.heap.get? b=some u->h'.get? b=some u) (hp:s.heap.objs.size<=a) (new:dI X.prog X.w (upd H a o) h' a o) :
  Inv X pins σ (upd H a o) { s with heap:=h',toks:=t' }:=I.un (Un.laid k hp (I.hok.fresh hp)) (I.hok.laid k hp new)
theorem Inv.write {x e:Addr} {o:HO} {t':Nat} (I:Inv X pins σ H s) (mu:Mut (H x)) (he:e=x\/H e=some (.own x)) (k:∀ b u,b≠e->s.heap.get? b=some u->h'.get? b=some u) (heo:∃ u,h'.get? e=some u)
  (new:dI X.prog X.w (upd H x o) h' x o):Inv X pins σ (upd H x o) { s with heap:=h',toks:=t' }:=I.un (Un.write mu he k heo) (I.hok.write mu he k heo new)
theorem Inv.pins_of {pins':List (Addr × Obj)} (I:Inv X pins σ H s) (h:∀ p∈pins',s.heap.get? p.1=some p.2/\H p.1=none/\p.1≠X.env.locals/\p.1 ∉ X.fs/\∀ v,p.2.data ≠ .cell v):Inv X pins' σ H s:=
 ⟨I.ok,I.os,I.bare,I.base,I.loc,I.cell,I.free,I.freeC,fun p hp=>(List.mem_append.mp hp).elim (fun z=>I.pin p (List.mem_append_left _ z)) (h p),I.hok,I.len⟩
theorem zA {N:List Str} (hN:N.Nodup) {i j:Nat} {x:Str} (a:N[i]? = some x) (b:N[j]? = some x):i=j:=by
 obtain⟨h1,e1⟩:=List.getElem?_eq_some_iff.mp a
 obtain⟨h2,e2⟩:=List.getElem?_eq_some_iff.mp b
 exact(List.getElem_inj hN).mp (e1.trans e2.symm)
theorem B0 {M:Model} {A:Around} {E:Value->Shared->Prop} {i:Nat} {x:Str} {v:V} {u:Value} {Q:Unit->Shared->Prop} (I:Inv X pins σ H s) (hN:X.N.Nodup) (hi:X.N[i]? = some x) (hx:Loc X.env.scope x) (r:bU v u)
  (h:∀ s',Inv X pins (σ.set i (some v)) H s'->(∃ a,Heap.SameBut a s.heap s'.heap/\(a=X.env.locals\/X.env.cells.lookup x=some a))->Q () s') (hf:X.fn x=true\/X.env.scope.names.lookup x=some .local:=by first | exact .inl rfl | exact .inr rfl | assumption):wpAny M A (storeName X.env x u) Q E s:=by
 obtain⟨m,hn,hl⟩:=id I.loc
 have hcls:(X.env.scope.kind == .class || (X.env.scope.kind == .module && X.env.locals != X.env.globals))=false:=by rw[I.ok.kind]; rfl
 have hiσ : i < σ.length:=by rw[I.len]; exact(List.getElem?_eq_some_iff.mp hi).1
 have cne:=I.cne
 have tracked:∀ {a:Addr} {h':Heap},(∃ o,s.heap.get? a=some o/\H a=none)->Heap.SameBut a s.heap h'->HOk X.prog X.w H h':=fun {a h'} ha hs b ob e=>by
  obtain⟨_,_,hfree⟩:=ha
  refine(I.hok b ob e).stay (fun c w' hc q=>(hs.2 c ?_).trans q) (fun _ q=>q) fun _ _ q=>q
  rintro rfl
  rcases hc with rfl | hc
  ·rw[hfree]at e; cases e
  ·rw[hfree]at hc; cases hc
 rcases hx with hk | hk
 ·refine wpAny_storeName_local hk hn (fun h' hn' hs=>?_) hcls
  obtain⟨oL,_,_,hoL,_⟩:=id hn
  refine h _ ⟨I.ok,I.os,I.bare,⟨fun b o e n hb hx=>?_,fun b o e n hb hx=>?_,I.base.free,fun b o e hx=>?_,I.base.tups,I.base.frzs,I.base.tbls⟩,⟨_,hn',fun j y v' e1 e2 e3=>?_⟩,fun y c e=>?_,I.free,I.freeC,fun p hp=>?_,tracked ⟨oL,hoL,I.free⟩ hs,by simpa using I.len⟩ ⟨_,hs,.inl rfl⟩
  ·exact(hs.2 b (Nat.ne_of_lt (Nat.lt_of_lt_of_le (Heap.lt_size e) I.ok.above))).trans (I.base.keep b o e n hb hx)
  ·obtain⟨sl,e1⟩:=I.base.slot b o e n hb hx
   exact⟨sl,(hs.2 b (Nat.ne_of_lt (Nat.lt_of_lt_of_le (Heap.lt_size e) I.ok.above))).trans e1⟩
  ·obtain⟨o',e1⟩:=I.base.there b o e hx
   exact⟨o',(hs.2 b (Nat.ne_of_lt (Nat.lt_of_lt_of_le (Heap.lt_size e) I.ok.above))).trans e1⟩
  ·by_cases hj:j=i
   ·subst hj
    rw[hi]at e1; cases e1
    rw[List.getElem?_set_self hiσ]at e2
    cases e2
    exact⟨u,r,.inl ⟨hk,by simp⟩⟩
   ·rw[List.getElem?_set_ne (Ne.symm hj)]at e2
    obtain⟨u',r',q⟩:=hl j y v' e1 e2 e3
    refine⟨u',r',?_⟩
    rcases q with ⟨k,e⟩ | ⟨k,c,e,z⟩
    ·refine .inl ⟨k,?_⟩
     have:y≠x:=fun e=>hj (zA hN e1 (e ▸ hi))
     simp [this,e]
    ·exact .inr ⟨k,c,e,z.sameBut hs (cne y c e)⟩
  ·obtain⟨w',z⟩:=I.cell y c e
   exact⟨w',z.sameBut hs (cne y c e)⟩
  ·obtain⟨e,n,ne,nf,d⟩:=I.pin p hp
   exact⟨(hs.2 p.1 ne).trans e,n,ne,nf,d⟩
 ·have hfn:X.fn x=true:=by
   rcases hf with z | z
   ·exact z
   ·rw[z]at hk; cases hk
  obtain⟨c,hc⟩:=I.ok.has x (.inl hk)
  obtain⟨w',z⟩:=I.cell x c hc
  refine wpAny_storeName_cell I.ok.kind hk hc z (fun h' hc' hs=>?_)
  obtain⟨oc,hoc,hocd⟩:=id z
  refine h { s with heap:=h' } ⟨I.ok,I.os,I.bare,⟨fun b o e n hb hx=>?_,fun b o e n hb hx=>?_,I.base.free,fun b o e hx=>?_,I.base.tups,I.base.frzs,I.base.tbls⟩,⟨m,hn.sameBut hs (Ne.symm (cne x c hc)),fun j y v' e1 e2 e3=>?_⟩,fun y c' e=>?_,I.free,I.freeC,fun p hp=>?_,tracked ⟨oc,hoc,I.freeC x c hc⟩ hs,by simpa using I.len⟩ ⟨c,hs,.inr hc⟩
  ·exact(hs.2 b (Nat.ne_of_lt (Nat.lt_of_lt_of_le (Heap.lt_size e) (I.ok.cab x c hfn hc)))).trans (I.base.keep b o e n hb hx)
  ·obtain⟨sl,e1⟩:=I.base.slot b o e n hb hx
   exact⟨sl,(hs.2 b (Nat.ne_of_lt (Nat.lt_of_lt_of_le (Heap.lt_size e) (I.ok.cab x c hfn hc)))).trans e1⟩
  ·obtain⟨o',e1⟩:=I.base.there b o e hx
   exact⟨o',(hs.2 b (Nat.ne_of_lt (Nat.lt_of_lt_of_le (Heap.lt_size e) (I.ok.cab x c hfn hc)))).trans e1⟩
  ·by_cases hj:j=i
   ·subst hj
    rw[hi]at e1; cases e1
    rw[List.getElem?_set_self hiσ]at e2
    cases e2
    exact⟨u,r,.inr ⟨.inl hk,c,hc,hc'⟩⟩
   ·rw[List.getElem?_set_ne (Ne.symm hj)]at e2
    obtain⟨u',r',q⟩:=hl j y v' e1 e2 e3
    refine⟨u',r',?_⟩
    rcases q with q | ⟨k,c',e,z'⟩
    ·exact .inl q
    ·refine .inr ⟨k,c',e,z'.sameBut hs ?_⟩
     rintro rfl
     exact hj (zA hN e1 (I.ok.inj _ _ _ e hc ▸ hi))
  ·by_cases hcc:c'=c
   ·subst hcc; exact⟨_,hc'⟩
   ·obtain⟨w2,z2⟩:=I.cell y c' e
    exact⟨w2,z2.sameBut hs hcc⟩
  ·obtain⟨e,n,ne,nf,d⟩:=I.pin p hp
   refine⟨(hs.2 p.1 ?_).trans e,n,ne,nf,d⟩
   intro q
   rw[q,hoc]at e
   have q':oc=p.2:=Option.some.inj e
   exact d w' (by rw[<- q']; exact hocd)
theorem rH {M:Model} {A:Around} {E:Value->Shared->Prop} {i:Nat} {x:Str} {v:V} {u:Value} {Q:Unit->Shared->Prop} (I:Inv X pins σ H s) (hN:X.N.Nodup) (hi:X.N[i]? = some x) (hx:Loc X.env.scope x) (r:bU v u)
  (h:∀ s',Inv X pins (σ.set i (some v)) H s'->Q () s') (hf:X.fn x=true\/X.env.scope.names.lookup x=some .local:=by first | exact .inl rfl | exact .inr rfl | assumption):wpAny M A (storeName X.env x u) Q E s:=
 B0 I hN hi hx r (fun s' I' _=>h s' I') hf
theorem Inv.call' {s':Shared} {ch:List Addr} (I:Inv X pins σ H s) (ho:s'.os=s.os) (u:Un (frs X.stack) ch H H' s.heap s'.heap) (hok:HOk X.prog X.w H' s'.heap) (hg:AllBare s'.gens)
  (hch:∀ b∈ch,(b∈X.ex\/X.s₀.heap.objs.size<=b)/\b≠X.env.locals/\(∀ x c,X.env.cells.lookup x=some c->c≠b)/\∀ p∈X.pn++pins,p.1≠b):Inv X pins σ H' s':=by
 obtain⟨h',g',d',t',o'⟩:=s'
 have e:o'=s.os:=ho
 subst e
 exact I.call (g':=g') (t':=t') (d':=d') u hok hg hch
end
noncomputable abbrev XK:=Value->Option Addr->Hp->Prop
noncomputable abbrev St:=List (Option V)
noncomputable abbrev VK:=V->Hp->Prop
noncomputable abbrev TE:=St->Hp->VK->Prop
noncomputable abbrev TT:=St->Hp->(Bool->Hp->Prop)->Prop
noncomputable abbrev TA:=St->Hp->(List V->Hp->Prop)->Prop
structure Ends where
 nx:St->Hp->Prop
 rt:VK
 bk:St->Hp->Prop:=fun _ _=>False
 ct:St->Hp->Prop:=fun _ _=>False
noncomputable abbrev TS:=Ends->St->Hp->Prop
noncomputable def EP (X:Cx) (pins:List (Addr × Obj)) (σ : St) (Q:VK) (u:Value) (s':Shared):Prop:=∃ v H',Inv X pins σ H' s'/\bU v u/\Q v H'
noncomputable def TP (X:Cx) (pins:List (Addr × Obj)) (σ : St) (Q:Bool->Hp->Prop) (b:Bool) (s':Shared):Prop:=∃ H',Inv X pins σ H' s'/\Q b H'
noncomputable def AP (X:Cx) (pins:List (Addr × Obj)) (σ : St) (Q:List V->Hp->Prop) (us:List Value) (s':Shared):Prop:=∃ vs H',Inv X pins σ H' s'/\bQ vs us/\Q vs H'
noncomputable def SP (X:Cx) (pins:List (Addr × Obj)) (D:Ends) (f:Flow) (s':Shared):Prop:=
 match f with
 | .next=>∃ σ' H',Inv X pins σ' H' s'/\D.nx σ' H'
 | .brk=>∃ σ' H',Inv X pins σ' H' s'/\D.bk σ' H'
 | .cont=>∃ σ' H',Inv X pins σ' H' s'/\D.ct σ' H'
 | .ret u=>∃ v σ' H',Inv X pins σ' H' s'/\bU v u/\D.rt v H'
noncomputable def PE (X:Cx) (e:Expr) (t:TE):Prop:=
 ∀ (pins:List (Addr × Obj)) (s:Shared) (σ : St) (H:Hp) (Q:VK),Inv X pins σ H s->t σ H Q->wpAny (model X.prog X.w) X.A (eval e X.env) (EP X pins σ Q) X.xe s
noncomputable def PT (X:Cx) (e:Expr) (t:TT):Prop:=
 ∀ (pins:List (Addr × Obj)) (s:Shared) (σ : St) (H:Hp) (Q:Bool->Hp->Prop),Inv X pins σ H s->t σ H Q->wpAny (model X.prog X.w) X.A (isTrue e X.env (eval e X.env)) (TP X pins σ Q) X.xe s
noncomputable def PW (X:Cx) (e:Expr) (t:TT):Prop:=
 ∀ (whole:Sem Value) (pins:List (Addr × Obj)) (s:Shared) (σ : St) (H:Hp) (Q:Bool->Hp->Prop),Inv X pins σ H s->t σ H Q->wpAny (model X.prog X.w) X.A (isTrue e X.env whole) (TP X pins σ Q) X.xe s
theorem PW.pt {X:Cx} {e:Expr} {t:TT} (h:PW X e t):PT X e t:=h _
noncomputable def PA (X:Cx) (es:List Expr) (t:TA):Prop:=
 ∀ (pos:Pos) (pins:List (Addr × Obj)) (s:Shared) (σ : St) (H:Hp) (Q:List V->Hp->Prop),Inv X pins σ H s->t σ H Q->wpAny (model X.prog X.w) X.A (spliced (backTo pos (starEach es X.env))) (AP X pins σ Q) X.xe s
noncomputable def PS (X:Cx) (st:Stmt) (t:TS):Prop:=
 ∀ (pins:List (Addr × Obj)) (s:Shared) (σ : St) (H:Hp) (D:Ends),Inv X pins σ H s->t D σ H->wpAny (model X.prog X.w) X.A (exec st X.env) (SP X pins D) X.xe s
noncomputable def PSs (X:Cx) (st:List Stmt) (t:TS):Prop:=
 ∀ (pins:List (Addr × Obj)) (s:Shared) (σ : St) (H:Hp) (D:Ends),Inv X pins σ H s->t D σ H->wpAny (model X.prog X.w) X.A (execs st X.env) (SP X pins D) X.xe s
theorem thn {α : Type} {t:Sem α} {Q Q':α->Shared->Prop} {M:Model} {A:Around} {E:Value->Shared->Prop} {s:Shared} (h:wpAny M A t Q E s) (hQ:∀ a s,Q a s->Q' a s):wpAny M A t Q' E s:=wpAny_mono h hQ fun _ _ x=>x
end L2
namespace L2
open PySem PySem.Spec PyProof.Rows
section
variable {X:Cx}
noncomputable def gH (i:Nat):TE:=fun σ H Q=>∃ v,σ[i]? = some (some v)/\Q v H
noncomputable def tC (v:V):TE:=fun _ H Q=>Q v H
theorem GJ {i:Nat} {x:Str} {pos:Pos} (hN:X.N[i]? = some x) (hv:Vis X.env.scope x) (hd:(x == ("__debug__" : Str))=false:=by decide) (hcd:(x == ("__classdict__" : Str))=false:=by decide):PE X (.Name x pos) (gH i):=by
 intro pins s σ H Q I h
 obtain⟨v,e,h⟩:=h
 obtain⟨m,hn,hl⟩:=I.loc
 obtain⟨u,r,l⟩:=hl i x v hN e hv
 have fin:EP X pins σ Q u s:=⟨v,H,I,r,h⟩
 rcases l with ⟨hk,hm⟩ | ⟨hk,c,hc,hcell⟩
 ·exact wpAny_Name (wpAny_loadName_local I.ok.kind hk hn hm fin) hd
 ·rcases hk with hk | hk
  ·exact wpAny_Name (wpAny_loadName_cell I.ok.kind hk hc hcell fin) hd
  ·exact wpAny_Name (wpAny_loadName_free I.ok.kind hk hc hcell fin hcd) hd
theorem jY {i j pos}:PE X (.Constant (.int i) j pos) (tC (.int i)):=fun _ _ _ H _ I h=>wpAny_Constant_int ⟨.int i,H,I.tok _,⟨_,rfl⟩,h⟩
theorem BU {b j pos}:PE X (.Constant (.bool b) j pos) (tC (.bl b)):=fun _ _ _ H _ I h=>Constant_bool ⟨.bl b,H,I,rfl,h⟩
theorem mW {j pos}:PE X (.Constant .none j pos) (tC .non):=fun _ _ _ H _ I h=>Constant_none ⟨.non,H,I,rfl,h⟩
theorem dW {x j pos}:PE X (.Constant (.str x) j pos) (tC (.str x)):=fun _ _ _ H _ I h=>Calls.Constant_str ⟨.str x,H,I.tok _,⟨_,rfl⟩,h⟩
noncomputable def Gl (X:Cx) (x:Str):Prop:=X.env.kindOf x=some .globalImplicit
theorem nZ {E:Value->Shared->Prop} {pins:List (Addr × Obj)} {s:Shared} {σ : St} {H:Hp} {x:Str} {u:Value} {pos:Pos} {Q:Value->Shared->Prop} (I:Inv X pins σ H s) (hg:Gl X x) (hm:X.mg x=some u) (h:Q u s)
  (hd:(x == ("__debug__" : Str))=false:=by decide):wpAny (model X.prog X.w) X.A (eval (.Name x pos) X.env) Q E s:=
 Calls.Name_function_global I.ok.kind hg (Calls.loadGlobal_global (by rw[I.ok.glob]; exact I.mod.glob.keeps I.bk) hm h) hd
theorem mX {E:Value->Shared->Prop} {pins:List (Addr × Obj)} {s:Shared} {σ : St} {H:Hp} {x:Str} {u:Value} {pos:Pos} {Q:Value->Shared->Prop} (I:Inv X pins σ H s) (hg:Gl X x) (hm:X.mg x=none) (hv:bootBuiltins x=some u) (h:Q u s)
  (hn:x ≠ "__name__":=by decide) (hd:(x == ("__debug__" : Str))=false:=by decide):wpAny (model X.prog X.w) X.A (eval (.Name x pos) X.env) Q E s:=by
 obtain⟨mb,h1,h2⟩:=I.mod.blt
 exact Calls.Name_function_global I.ok.kind hg (Calls.loadGlobal_builtin (by rw[I.ok.glob]; exact I.mod.glob.keeps I.bk) hm (by rw[I.ok.blt]; exact h1.keeps I.bk) ((h2 x hn).trans hv) h) hd
theorem bX {x:Str} {v:V} {u:Value} {pos:Pos} (hg:Gl X x) (hm:X.mg x=some u) (r:bU v u) (hd:(x == ("__debug__" : Str))=false:=by decide):PE X (.Name x pos) (tC v):=
 fun _ _ _ H _ I h=>nZ I hg hm ⟨v,H,I,r,h⟩ hd
theorem lR {x:Str} {v:V} {u:Value} {pos:Pos} (hg:Gl X x) (hm:X.mg x=none) (hv:bootBuiltins x=some u) (r:bU v u) (hn:x ≠ "__name__":=by decide) (hd:(x == ("__debug__" : Str))=false:=by decide):PE X (.Name x pos) (tC v):=
 fun _ _ _ H _ I h=>mX I hg hm hv ⟨v,H,I,r,h⟩ hn hd
variable {a b:Expr} {ta tb:TE} {pos:Pos}
noncomputable def PC (X:Cx) (op:CmpOp) (a b:Expr) (t:TE):Prop:=
 ∀ (pins:List (Addr × Obj)) (s:Shared) (σ : St) (H:Hp) (Q:VK),Inv X pins σ H s->t σ H Q->
  wpAny (model X.prog X.w) X.A (eval a X.env) (fun v s₁=>wpAny (model X.prog X.w) X.A (eval b X.env) (fun u s₂=>wpAny (model X.prog X.w) X.A (compareOp op v u) (EP X pins σ Q) X.xe s₂) X.xe s₁) X.xe s
theorem Do (b:Expr) {op:CmpOp} (h:op ≠ .In) (h2:op ≠ .NotIn):behindInMarks op b=false:=by
 have e1:(op == CmpOp.In)=false:=by cases op <;> first | rfl | exact absurd rfl h
 have e2:(op == CmpOp.NotIn)=false:=by cases op <;> first | rfl | exact absurd rfl h2
 cases b <;> simp [behindInMarks,e1,e2]
noncomputable def tB (t:TE):TT:=fun σ H Q=>t σ H fun x H1=>∃ c,x = .bl c/\Q c H1
theorem sF {op:CmpOp} {t:TE} (h:PC X op a b t) (h1:behindInMarks op b=false:=by first | exact Do _ (by decide) (by decide) | rfl):PT X (.Compare a [op] [b] pos) (tB t):=by
 intro pins s σ H Q I hw
 refine wpAny_isTrue_Compare1 (thn (h pins s σ H _ I hw) fun v s1 h1=>thn h1 fun u s2 h2=>thn h2 fun c s3 zQq=>?_) h1
 obtain⟨x,H1,I1,r1,q1⟩:=zQq
 obtain⟨d,rfl,q⟩:=q1
 cases r1
 exact wpAny_truthy_bool ⟨H1,I1,q⟩
theorem cY {e:Expr} {t:TE} (h:PE X e t) (he:∀ whole,isTrue e X.env whole=(do let v <- whole; standAt e.pos; holding [v] (truthy v)):=by intro _; rfl):PT X e (tB t):=by
 intro pins s σ H Q I hw
 refine isTrue_plain (thn (h pins s σ H _ I hw) fun v s1 zQq=>?_) (he _)
 obtain⟨x,H1,I1,r1,q1⟩:=zQq
 obtain⟨d,rfl,q⟩:=q1
 cases r1
 exact wpAny_truthy_bool ⟨H1,I1,q⟩
variable {tA tB':TT} {rest:List Expr}
noncomputable def F3 (t u:TT):TT:=fun σ H Q=>t σ H fun c H1=>if c=true then u σ H1 Q else Q false H1
noncomputable def tOr (t u:TT):TT:=fun σ H Q=>t σ H fun c H1=>if c=true then Q true H1 else u σ H1 Q
noncomputable def tNot (t:TT):TT:=fun σ H Q=>t σ H fun c H1=>Q (!c) H1
theorem gO (ha:PT X a tA):PW X (.BoolOp .And [a] pos) tA:=by
 intro wh pins s σ H Q I h
 refine isTrue_and (thn (ha pins s σ H Q I h) fun c s1 e=>?_)
 cases c with
 | true=>exact isTrue_and_nil e
 | false=>exact e
theorem hW (ha:PT X a tA):PW X (.BoolOp .Or [a] pos) tA:=by
 intro wh pins s σ H Q I h
 refine isTrue_or (thn (ha pins s σ H Q I h) fun c s1 e=>?_)
 cases c with
 | false=>exact isTrue_or_nil e
 | true=>exact e
theorem jV (ha:PT X a tA) (hb:PW X (.BoolOp .And (b::rest) pos) tB'):PW X (.BoolOp .And (a::b::rest) pos) (F3 tA tB'):=by
 intro wh pins s σ H Q I h
 refine isTrue_and (thn (ha pins s σ H _ I h) fun c s1 zQq=>?_)
 obtain⟨H1,I1,q1⟩:=zQq
 cases c with
 | true=>exact hb wh pins s1 σ H1 Q I1 q1
 | false=>exact⟨H1,I1,q1⟩
theorem kC (ha:PT X a tA) (hb:PW X (.BoolOp .Or (b::rest) pos) tB'):PW X (.BoolOp .Or (a::b::rest) pos) (tOr tA tB'):=by
 intro wh pins s σ H Q I h
 refine isTrue_or (thn (ha pins s σ H _ I h) fun c s1 zQq=>?_)
 obtain⟨H1,I1,q1⟩:=zQq
 cases c with
 | true=>exact⟨H1,I1,q1⟩
 | false=>exact hb wh pins s1 σ H1 Q I1 q1
theorem cF (ha:PT X a tA):PT X (.UnaryOp .Not a pos) (tNot tA):=by
 intro pins s σ H Q I h
 exact isTrue_not (ha pins s σ H (fun c H1=>Q (!c) H1) I h)
noncomputable def tAndV (ta tb:TE):TE:=fun σ H Q=>ta σ H fun x H1=>∃ c,x = .bl c/\if c=true then tb σ H1 Q else Q (.bl false) H1
theorem xC {op} {t:TE} (h:PE X a t):PE X (.BoolOp op [a] pos) t:=fun pins s σ H Q I hw=>BoolOp_one (h pins s σ H Q I hw)
theorem sM (ha:PE X a ta) (hb:PE X (.BoolOp .And (b::rest) pos) tb):PE X (.BoolOp .And (a::b::rest) pos) (tAndV ta tb):=by
 intro pins s σ H Q I h
 refine BoolOp_and (thn (ha pins s σ H _ I h) fun v s1 zQq=>?_)
 obtain⟨x,H1,I1,r1,q1⟩:=zQq
 obtain⟨c,rfl,q1⟩:=q1
 cases r1
 refine wpAny_truthy_bool ?_
 cases c with
 | true=>exact hb pins s1 σ H1 Q I1 q1
 | false=>exact⟨.bl false,H1,I1,rfl,q1⟩
noncomputable def tIf (t:TT) (ta tb:TE):TE:=fun σ H Q=>t σ H fun c H1=>if c=true then ta σ H1 Q else tb σ H1 Q
theorem Db {c:Expr} (hc:PT X c tA) (ha:PE X a ta) (hb:PE X b tb):PE X (.IfExp c a b pos) (tIf tA ta tb):=by
 intro pins s σ H Q I h
 refine wpAny_IfExp (thn (hc pins s σ H _ I h) fun d s1 zQq=>?_)
 obtain⟨H1,I1,q1⟩:=zQq
 cases d with
 | true=>exact ha pins s1 σ H1 Q I1 q1
 | false=>exact hb pins s1 σ H1 Q I1 q1
end
end L2
namespace L2
open PySem PySem.Spec PyProof.Rows
noncomputable def SqL (K:PySem.W.Frag) (H:Hp) (a:Addr) (xs:List V):Prop:=
 Rd H a (.lst xs)\/
  ∃ (o:Obj) (its:Array Value) (n:Nat),K.lookup a=some o/\o.cls = .type "list"/\o.dict=none/\o.data = .seq its n/\its.size<=sizeLine/\bQ xs its.toList
noncomputable def SqT (K:PySem.W.Frag) (H:Hp) (a:Addr) (xs:List V):Prop:=
 Rd H a (.tup xs)\/
  ∃ (o:Obj) (its:Array Value) (n:Nat),K.lookup a=some o/\o.cls = .type "tuple"/\o.data = .seq its n/\its.size<=sizeLine/\bQ xs its.toList
noncomputable def absV:Value->Option V
 | .none=>some .non
 | .bool b=>some (.bl b)
 | .int i _=>some (.int i)
 | .str x _=>some (.str x)
 | .bytes b _=>some (.byt b)
 | .float b _=>some (.flt b)
 | .ref a=>some (.ref a)
 | .type n=>some (.ty n)
 | _=>none
theorem bU.abs {x:V} {u:Value} (r:bU x u):absV u=some x:=by
 cases x with
 | non=>cases r; rfl
 | bl _=>cases r; rfl
 | int _=>obtain⟨t,rfl⟩:=r; rfl
 | str _=>obtain⟨t,rfl⟩:=r; rfl
 | byt _=>obtain⟨t,rfl⟩:=r; rfl
 | flt _=>obtain⟨t,rfl⟩:=r; rfl
 | ref _=>cases r; rfl
 | ty _=>cases r; rfl
theorem bU.inj {x y:V} {u:Value} (r:bU x u) (q:bU y u):x=y:=Option.some.inj (r.abs.symm.trans q.abs)
theorem bQ.inj:∀ {xs ys:List V} {us:List Value},bQ xs us->bQ ys us->xs=ys
 | _,_,_,.nil,.nil=>rfl
 | _,_,_,.cons r t,.cons r' t'=>by rw[r.inj r',bQ.inj t t']
section
variable {X:Cx} {pins:List (Addr × Obj)} {σ : St} {H:Hp} {s:Shared} {a:Addr} {xs ys:List V}
theorem SqL.of {K:PySem.W.Frag} (h:H a=some (.lst xs)):SqL K H a xs:=.inl (.inl h)
theorem SqT.of {K:PySem.W.Frag} (h:H a=some (.tup xs)):SqT K H a xs:=.inl (.inl h)
theorem Inv.list (I:Inv X pins σ H s) (h:SqL X.K H a xs):∃ its:List Value,bQ xs its/\PlainL s.heap a its.toArray/\xs.length<=sizeLine:=by
 rcases h with h | ⟨o,its,n,hk,hc,hd,hs,hz,r⟩
 ·obtain⟨z,its,n,r,e⟩:=h.ok I.hok
  exact⟨its,r,⟨_,n,e,rfl,rfl,rfl⟩,z⟩
 ·refine⟨its.toList,r,⟨o,n,I.kIn a o hk,hc,hd,by simpa using hs⟩,?_⟩
  have e:=r.length
  simp only[Array.length_toList]at e
  omega
theorem Inv.tuple (I:Inv X pins σ H s) (h:SqT X.K H a xs):∃ its:List Value,bQ xs its/\IsTup s.heap a its.toArray/\xs.length<=sizeLine:=by
 rcases h with h | ⟨o,its,n,hk,hc,hs,hz,r⟩
 ·obtain⟨z,its,r,p⟩:=h.ok I.hok
  exact⟨its,r,p,z⟩
 ·refine⟨its.toList,r,⟨o,I.kIn a o hk,hc,n,by simpa using hs⟩,?_⟩
  have e:=r.length
  simp only[Array.length_toList]at e
  omega
theorem Inv.list_inj (I:Inv X pins σ H s) (h:SqL X.K H a xs) (h':SqL X.K H a ys):xs=ys:=by
 obtain⟨its,r,⟨o,n,e,_,_,d⟩,_⟩:=I.list h
 obtain⟨its',r',⟨o',n',e',_,_,d'⟩,_⟩:=I.list h'
 rw[e]at e'; cases e'
 rw[d]at d'
 injection d' with d1 _
 have:its=its':=by simpa using congrArg Array.toList d1
 subst this
 exact r.inj r'
theorem Inv.tuple_inj (I:Inv X pins σ H s) (h:SqT X.K H a xs) (h':SqT X.K H a ys):xs=ys:=by
 obtain⟨its,r,⟨o,e,_,n,d⟩,_⟩:=I.tuple h
 obtain⟨its',r',⟨o',e',_,n',d'⟩,_⟩:=I.tuple h'
 rw[e]at e'; cases e'
 rw[d]at d'
 injection d' with d1 _
 have:its=its':=by simpa using congrArg Array.toList d1
 subst this
 exact r.inj r'
end
noncomputable abbrev Cx.wish (X:Cx) (E:Value->Shared->Prop):Cx:={ X with xe:=E }
theorem Cx.Ok.wish {X:Cx} (ok:X.Ok) (E:Value->Shared->Prop):(X.wish E).Ok:=
 ⟨ok.mod,ok.kind,ok.glob,ok.blt,ok.above,ok.inj,ok.has,ok.cab,ok.hd,ok.frames,ok.stk,ok.exf,ok.bs,ok.bsz,ok.noex,ok.exfs,ok.funs,ok.frf⟩
theorem Cx.Ok.unwish {X:Cx} {E:Value->Shared->Prop} (ok:(X.wish E).Ok):X.Ok:=
 ⟨ok.mod,ok.kind,ok.glob,ok.blt,ok.above,ok.inj,ok.has,ok.cab,ok.hd,ok.frames,ok.stk,ok.exf,ok.bs,ok.bsz,ok.noex,ok.exfs,ok.funs,ok.frf⟩
section
variable {X:Cx} {pins:List (Addr × Obj)} {σ : St} {H:Hp} {s:Shared} {E:Value->Shared->Prop}
theorem Inv.wish (I:Inv X pins σ H s) (E:Value->Shared->Prop):Inv (X.wish E) pins σ H s:=⟨I.ok.wish E,I.os,I.bare,I.base,I.loc,I.cell,I.free,I.freeC,I.pin,I.hok,I.len⟩
theorem Inv.unwish (I:Inv (X.wish E) pins σ H s):Inv X pins σ H s:=⟨I.ok.unwish,I.os,I.bare,I.base,I.loc,I.cell,I.free,I.freeC,I.pin,I.hok,I.len⟩
theorem SP.unwish {D:Ends} {f:Flow} {s':Shared} (h:SP (X.wish E) pins D f s'):SP X pins D f s':=by
 cases f with
 | next=>obtain⟨σ',H',I,q⟩:=h; exact⟨σ',H',I.unwish,q⟩
 | brk=>obtain⟨σ',H',I,q⟩:=h; exact⟨σ',H',I.unwish,q⟩
 | cont=>obtain⟨σ',H',I,q⟩:=h; exact⟨σ',H',I.unwish,q⟩
 | ret u=>obtain⟨v,σ',H',I,r,q⟩:=h; exact⟨v,σ',H',I.unwish,r,q⟩
end
section
variable {X:Cx} {st:Stmt} {rest:List Stmt} {t u:TS} {e:Expr} {te:TE} {pos:Pos}
noncomputable def C4:TS:=fun D σ H=>D.nx σ H
noncomputable def By (t u:TS):TS:=fun D σ H=>t { D with nx:=u D } σ H
theorem aP:PSs X [] C4:=fun _ _ σ H _ I h=>wpAny_execs_nil ⟨σ,H,I,h⟩
theorem aA (h1:PS X st t) (h2:PSs X rest u):PSs X (st::rest) (By t u):=by
 intro pins s σ H D I h
 refine wpAny_execs_cons (thn (h1 pins s σ H { D with nx:=u D } I h) fun f s1 q=>?_)
 cases f with
 | next=>
  obtain⟨σ',H',I',q⟩:=q
  exact h2 pins s1 σ' H' D I' q
 | ret v=>exact q
 | brk=>exact q
 | cont=>exact q
theorem aC (h1:PS X st t):PSs X [st] t:=by
 intro pins s σ H D I h
 refine wpAny_execs_cons (thn (h1 pins s σ H D I h) fun f s1 q=>?_)
 cases f with
 | next=>exact wpAny_execs_nil q
 | ret v=>exact q
 | brk=>exact q
 | cont=>exact q
theorem Inv.quiet {pins:List (Addr × Obj)} {σ : St} {H:Hp} {s:Shared} (I:Inv X pins σ H s):interactive X.env=false:=by simp [interactive,I.ok.kind]
noncomputable def tDrop (te:TE):TS:=fun D σ H=>te σ H fun _ H1=>D.nx σ H1
theorem aQ (he:PE X e te) (hs:swapsWith e none pos.line X.env=pure false:=by rfl):PS X (.Expr e pos) (tDrop te):=by
 intro pins s σ H D I h
 exact wpAny_Expr_any (thn (he pins s σ H _ I h) fun v s1 ⟨x,H1,I1,r1,q1⟩=>⟨σ,H1,I1,q1⟩) I.quiet hs
noncomputable def Fy (te:TE):TS:=fun D σ H=>te σ H D.rt
theorem bA (he:PE X e te):PS X (.Return (some e) pos) (Fy te):=by
 intro pins s σ H D I h
 exact wpAny_Return_some (thn (he pins s σ H _ I h) fun v s1 ⟨x,H1,I1,r1,q1⟩=>⟨x,σ,H1,I1,r1,q1⟩)
noncomputable def Fz (c:TT) (t u:TS):TS:=fun D σ H=>c σ H fun b H1=>if b=true then t D σ H1 else u D σ H1
theorem a9 {c:Expr} {a b:List Stmt} {tc:TT} (hc:PT X c tc) (ha:PSs X a t) (hb:PSs X b u):PS X (.If c a b pos) (Fz tc t u):=by
 intro pins s σ H D I h
 refine wpAny_If (thn (hc pins s σ H _ I h) fun d s1 zQq=>?_)
 obtain⟨H1,I1,q1⟩:=zQq
 cases d with
 | true=>exact ha pins s1 σ H1 D I1 q1
 | false=>exact hb pins s1 σ H1 D I1 q1
end
noncomputable abbrev TG:=V->St->Hp->(St->Hp->Prop)->Prop
noncomputable abbrev TGs:=List V->St->Hp->(St->Hp->Prop)->Prop
noncomputable def PG (X:Cx) (target:Expr) (t:TG):Prop:=
 ∀ (pins:List (Addr × Obj)) (s:Shared) (σ : St) (H:Hp) (v:V) (u:Value) (Q:St->Hp->Prop),Inv X pins σ H s->bU v u->t v σ H Q->
  wpAny (model X.prog X.w) X.A (assign target X.env u) (fun _ s'=>∃ σ' H',Inv X pins σ' H' s'/\Q σ' H') X.xe s
noncomputable def PGs (X:Cx) (ts:List Expr) (t:TGs):Prop:=
 ∀ (pins:List (Addr × Obj)) (s:Shared) (σ : St) (H:Hp) (vs:List V) (us:List Value) (Q:St->Hp->Prop),Inv X pins σ H s->bQ vs us->t vs σ H Q->
  wpAny (model X.prog X.w) X.A (assignInOrder ((assignEach ts X.env).map (·.2)) us) (fun _ s'=>∃ σ' H',Inv X pins σ' H' s'/\Q σ' H') X.xe s
noncomputable abbrev TIp:=V->V->Hp->VK->Prop
noncomputable def PIp (X:Cx) (op:Operator) (t:TIp):Prop:=
 ∀ (pins:List (Addr × Obj)) (s:Shared) (σ : St) (H:Hp) (x y:V) (v u:Value) (Q:VK),Inv X pins σ H s->bU x v->bU y u->t x y H Q->
  wpAny (model X.prog X.w) X.A (inplaceOp op v u) (EP X pins σ Q) X.xe s
section
variable {X:Cx} {pos:Pos}
noncomputable def vQ (i:Nat):TG:=fun v σ H Q=>Q (σ.set i (some v)) H
theorem bW {i:Nat} {x:Str} (hN:X.N.Nodup) (hi:X.N[i]? = some x) (hx:Loc X.env.scope x) (hf:X.fn x=true\/X.env.scope.names.lookup x=some .local:=by first | exact .inl rfl | exact .inr rfl | assumption):PG X (.Name x pos) (vQ i):=by
 intro pins s σ H v u Q I r h
 exact wpAny_assign_Name (rH I hN hi hx r (fun s' I'=>⟨_,H,I',h⟩) hf)
noncomputable def gNil:TGs:=fun vs σ H Q=>vs=[]/\Q σ H
noncomputable def gCons (t:TG) (u:TGs):TGs:=fun vs σ H Q=>∃ v r,vs=v::r/\t v σ H fun σ' H'=>u r σ' H' Q
theorem E8:PGs X [] gNil:=by
 intro pins s σ H vs us Q I r h
 obtain⟨e,h⟩:=h
 subst e
 cases r
 exact assignInOrder_nil ⟨σ,H,I,h⟩
theorem yZ {e:Expr} {es:List Expr} {t:TG} {u:TGs} (h1:PG X e t) (h2:PGs X es u)
  (hs:(assignEach (e::es) X.env).map (·.2)=assign e X.env::(assignEach es X.env).map (·.2):=by rfl):PGs X (e::es) (gCons t u):=by
 intro pins s σ H vs us Q I r h
 obtain⟨v,vr,e1,h⟩:=h
 subst e1
 cases r with
 | cons r rr=>
  rw[hs]
  refine assignInOrder_cons (thn (h1 pins s σ H _ _ _ I r h) fun _ s1 zQq=>?_)
  obtain⟨σ1,H1,I1,q1⟩:=zQq
  exact h2 pins s1 σ1 H1 _ _ Q I1 rr q1
noncomputable def gTup (K:PySem.W.Frag) (n:Nat) (t:TGs):TG:=fun v σ H Q=>∃ a xs,v = .ref a/\SqT K H a xs/\xs.length=n/\t xs σ H Q
theorem GI {es:List Expr} {k:Nat} {t:TGs} {n:Nat} (hc:X.calm=true) (h:PGs X es t)
  (hn:(assignEach es X.env).length=n:=by rfl) (hst:(assignEach es X.env).findIdx? (·.1)=none:=by rfl):PG X (.Tuple es k pos) (gTup X.K n t):=by
 intro pins s σ H v u Q I r hw
 obtain⟨a,xs,e1,hq,hl,hw⟩:=hw
 subst e1
 cases r
 obtain⟨its,rv,ht,hz⟩:=I.tuple hq
 refine assign_Tuple_tuple (I.ok.hd hc) ht (by simp [hn,<- hl,rv.length]) hst fun h' hx=>?_
 have I1:Inv X pins σ H { s with heap:=h' }:=I.kept (t':=s.toks) fun b o e=>hx b o (Nat.ne_of_lt (Heap.lt_size e)) e
 exact h pins _ σ H xs _ Q I1 (by simpa using rv) hw
noncomputable def tAsg (te:TE) (g:TG):TS:=fun D σ H=>te σ H fun x H1=>g x σ H1 D.nx
theorem a8 {i:Nat} {x:Str} {e:Expr} {te:TE} {pos':Pos} (hN:X.N.Nodup) (hi:X.N[i]? = some x) (hx:Loc X.env.scope x) (he:PE X e te) (hs:swapsWith e (some (.Name x pos')) pos.line X.env=pure false:=by rfl) (hf:X.fn x=true\/X.env.scope.names.lookup x=some .local:=by first | exact .inl rfl | exact .inr rfl | assumption) :
  PS X (.Assign [.Name x pos'] e pos) (tAsg te (vQ i)):=by
 intro pins s σ H D I h
 refine wpAny_Assign_Name (thn (he pins s σ H _ I h) fun v s1 zQq=>?_) hs
 obtain⟨y,H1,I1,r1,q1⟩:=zQq
 exact rH I1 hN hi hx r1 (fun s2 I2=>⟨_,H1,I2,q1⟩) hf
noncomputable def tAug (i:Nat) (te:TE) (ti:TIp):TS:=fun D σ H=>∃ x,σ[i]? = some (some x)/\te σ H fun y H1=>ti x y H1 fun z H2=>D.nx (σ.set i (some z)) H2
theorem DU {i:Nat} {x:Str} {e:Expr} {te:TE} {op:Operator} {ti:TIp} {pos':Pos} (hN:X.N.Nodup) (hi:X.N[i]? = some x) (hx:Loc X.env.scope x) (he:PE X e te) (ho:PIp X op ti) (hf:X.fn x=true\/X.env.scope.names.lookup x=some .local:=by first | exact .inl rfl | exact .inr rfl | assumption) :
  PS X (.AugAssign (.Name x pos') op e pos) (tAug i te ti):=by
 intro pins s σ H D I h
 obtain⟨v,e1,h⟩:=h
 obtain⟨m,hn,hl⟩:=I.loc
 have vis:Vis X.env.scope x:=by rcases hx with k | k; exact .inl k; exact .inr (.inl k)
 obtain⟨u,r,l⟩:=hl i x v hi e1 vis
 refine wpAny_AugAssign_Name ?_
 have go:wpAny (model X.prog X.w) X.A (eval e X.env) (fun w s₂=>wpAny (model X.prog X.w) X.A (inplaceOp op u w) (fun r s₃=>wpAny (model X.prog X.w) X.A (storeName X.env x r) (fun _=>SP X pins D .next) X.xe s₃) X.xe s₂) X.xe s:=by
  refine thn (he pins s σ H _ I h) fun w s1 zQq=>?_
  obtain⟨y,H1,I1,r1,q1⟩:=zQq
  refine thn (ho pins s1 σ H1 v y u w _ I1 r r1 q1) fun z s2 zQq=>?_
  obtain⟨zv,H2,I2,r2,q2⟩:=zQq
  exact rH I2 hN hi hx r2 (fun s3 I3=>⟨_,H2,I3,q2⟩) hf
 rcases l with ⟨hk,hm⟩ | ⟨hk,c,hc,hcell⟩
 ·exact wpAny_loadName_local I.ok.kind hk hn hm go
 ·rcases hk with hk | hk
  ·exact wpAny_loadName_cell I.ok.kind hk hc hcell go
  ·rcases hx with k | k
   ·have:X.env.scope.names.lookup x=some .free:=hk
    rw[k]at this; cases this
   ·have:X.env.scope.names.lookup x=some .free:=hk
    rw[k]at this; cases this
noncomputable def ipI (f:Int->Int->Int):TIp:=fun x y H Q=>∃ i j,x = .int i/\y = .int j/\Q (.int (f i j)) H
theorem Gd:PIp X .Add (ipI fun i j=>i+j):=by
 intro pins s σ H x y v u Q I r1 r2 h
 obtain⟨i,j,e1,e2,q⟩:=h
 subst e1; subst e2
 obtain⟨t,rfl⟩:=r1
 obtain⟨t',rfl⟩:=r2
 exact iadd_int ⟨.int _,H,I.tok _,⟨_,rfl⟩,q⟩
theorem Gc:PIp X .Sub (ipI fun i j=>i - j):=by
 intro pins s σ H x y v u Q I r1 r2 h
 obtain⟨i,j,e1,e2,q⟩:=h
 subst e1; subst e2
 obtain⟨t,rfl⟩:=r1
 obtain⟨t',rfl⟩:=r2
 exact isub_int ⟨.int _,H,I.tok _,⟨_,rfl⟩,q⟩
end
section
variable {X:Cx} {pos:Pos}
noncomputable def Fx (c:TT) (tb:TS):TS:=fun D σ H=>∃ W:Nat->St->Hp->Prop,(∃ m,W m σ H)/\∀ m σ H,W m σ H->
 c σ H fun b H1=>if b=true then ∃ N:St->Hp->Prop,(∀ σ' H',N σ' H'->∃ m',m'<m/\W m' σ' H')/\tb { D with nx:=N,ct:=N,bk:=D.nx } σ H1 else D.nx σ H1
theorem sH {c:Expr} {body:List Stmt} {tc:TT} {tb:TS} (hp:PassesOwn (model X.prog X.w) X.A X.env X.xe) (hc:PT X c tc) (hb:PSs X body tb):PS X (.While c body [] pos) (Fx tc tb):=by
 intro pins s σ H D I h
 obtain⟨W,⟨m0,w0⟩,turn⟩:=h
 refine wpAny_While (codeAny_whileLoop (fun n s'=>∃ σ' H',Inv X pins σ' H' s'/\W n σ' H') ?_ m0 ⟨σ,H,I,w0⟩)
 rintro n s1 ⟨σ1,H1,I1,w1⟩
 refine wpAny_passesOwn hp (thn (hc pins s1 σ1 H1 _ I1 (turn n σ1 H1 w1)) fun b s2 zQq=>?_)
 obtain⟨H2,I2,q2⟩:=zQq
 cases b with
 | true=>
  obtain⟨N,hN,q2⟩:=q2
  rw[if_pos rfl]
  refine wpAny_passesOwn hp (thn (hb pins s2 σ1 H2 _ I2 q2) fun f s3 q3=>?_)
  cases f with
  | next=>
   obtain⟨σ3,H3,I3,n3⟩:=q3
   obtain⟨m',hm,w3⟩:=hN σ3 H3 n3
   exact⟨m',hm,σ3,H3,I3,w3⟩
  | cont=>
   obtain⟨σ3,H3,I3,n3⟩:=q3
   obtain⟨m',hm,w3⟩:=hN σ3 H3 n3
   exact⟨m',hm,σ3,H3,I3,w3⟩
  | brk=>exact q3
  | ret v=>exact q3
 | false=>
  rw[if_neg Bool.false_ne_true]
  exact wpAny_execs_nil ⟨σ1,H2,I2,q2⟩
end
structure It where
 go:Nat->Hp->Prop
 yld:Nat->Hp->V->Hp->Prop
 stop:Nat->Hp->Prop
noncomputable def qM (X:Cx) (pins:List (Addr × Obj)) (H:Hp) (b:Addr):Prop:=
 H b=none/\b≠X.env.locals/\b ∉ X.fs/\(b∈X.ex\/X.s₀.heap.objs.size<=b)/\(∀ x c,X.env.cells.lookup x=some c->c≠b)/\∀ p∈X.pn++pins,p.1≠b
theorem Inv.fpOk {X:Cx} {pins:List (Addr × Obj)} {σ : St} {H H':Hp} {s:Shared} {b:Addr} (I:Inv X pins σ H s) (hb:s.heap.objs.size<=b) (hn:H' b=none):qM X pins H' b:=by
 refine⟨hn,Nat.ne_of_gt (Nat.lt_of_lt_of_le I.lt hb),I.nofs hb,.inr (Nat.le_trans I.sz hb),fun x c e z=>?_,fun p hp z=>?_⟩
 ·obtain⟨v,q⟩:=I.cell x c e
  exact absurd (Nat.lt_of_lt_of_le q.lt (by rw[z]; exact hb)) (Nat.lt_irrefl _)
 ·exact absurd (Nat.lt_of_lt_of_le (Heap.lt_size (I.pin p hp).1) (by rw[z]; exact hb)) (Nat.lt_irrefl _)
structure Turn (P:Program) (w:World) (K:PySem.W.Frag) (tg:Expr) (J:It) (fp:List Addr) (it:Addr) (tn:Nat->Heap->Prop):Prop where
 mem:it∈fp
 obj:∀ i h,tn i h->∀ b∈fp,∃ o,h.get? b=some o/\∀ v,o.data ≠ .cell v
 keep:∀ i h h',tn i h->(∀ b∈fp,∀ o,h.get? b=some o->h'.get? b=some o)->tn i h'
 item:∀ (X:Cx),X.prog=P->X.w=w->X.K=K->X.calm=true->∀ (i:Nat) (pins:List (Addr × Obj)) (s:Shared) (σ : St) (H:Hp) (E:Value->Shared->Prop),Inv X pins σ H s->(∀ b∈fp,qM X pins H b)->tn i s.heap->J.go i H->
  wpAny (model P w) X.A (pyNext (.ref it)) (fun r s1=>∃ u,r=some u/\
   wpAny (model P w) X.A (letOwnedTupleGo tg (.ref it) u) (fun _ s2=>∃ x H',Inv X pins σ H' s2/\bU x u/\J.yld i H x H'/\tn (i+1) s2.heap/\∀ b∈fp,H' b=none) E s1) E s
 done:∀ (X:Cx),X.prog=P->X.w=w->X.K=K->X.calm=true->∀ (i:Nat) (pins:List (Addr × Obj)) (s:Shared) (σ : St) (H:Hp) (E:Value->Shared->Prop),Inv X pins σ H s->(∀ b∈fp,qM X pins H b)->tn i s.heap->J.stop i H->
  wpAny (model P w) X.A (pyNext (.ref it)) (fun r s1=>r=none/\Inv X pins σ H s1) E s
 self:∀ (A:Around) (i:Nat) (s:Shared) (Q:Value->Shared->Prop) (E:Value->Shared->Prop),tn i s.heap->Q (.ref it) s->wpAny (model P w) A (pyIter (.ref it)) Q E s
noncomputable abbrev TI:=St->Hp->(It->Hp->Prop)->Prop
noncomputable def PIE (X:Cx) (pins:List (Addr × Obj)) (σ : St) (tg:Expr) (R:It->Hp->Prop) (itv:Value) (s2:Shared):Prop:=
 ∃ (it:Addr) (fp:List Addr) (tn:Nat->Heap->Prop) (J:It) (H':Hp),itv = .ref it/\Inv X pins σ H' s2/\Turn X.prog X.w X.K tg J fp it tn/\tn 0 s2.heap/\(∀ b∈fp,qM X pins H' b)/\R J H'
noncomputable def PI (X:Cx) (tg iter:Expr) (wi:TI):Prop:=
 ∀ (pins:List (Addr × Obj)) (s:Shared) (σ : St) (H:Hp) (R:It->Hp->Prop),Inv X pins σ H s->wi σ H R->
  wpAny (model X.prog X.w) X.A (eval iter X.env) (fun v s1=>wpAny (model X.prog X.w) X.A (pyIter v) (PIE X pins σ tg R) X.xe s1) X.xe s
theorem Ba {M:Model} {A:Around} {E:Value->Shared->Prop} {s:Shared} {tg:Expr} {it:Addr} {u:Value} {o:Obj} {n:String} {vs:Array Value} {Q:Unit->Shared->Prop} (ho:s.heap.get? it=some o) (hc:o.cls = .type n) (hd:o.data = .fields vs)
  (hn:["enumerate","zip","dict_itemiterator","dict_reverseitemiterator","odict_iterator","itertools.zip_longest","itertools.pairwise"].contains n=false) (hQ:Q () s):wpAny M A (letOwnedTupleGo tg (.ref it) u) Q E s:=by
 unfold letOwnedTupleGo
 cases tg <;> first
  | exact wpAny_pure hQ
  | (cases u <;> first
    | exact wpAny_pure hQ
    | (refine wpAny_bind (wpAny_load ho ?_)
       rw[hc,hd]
       show wpAny M A (if (["enumerate","zip","dict_itemiterator","dict_reverseitemiterator","odict_iterator","itertools.zip_longest","itertools.pairwise"].contains n && vs[0]? == some (rawInt _))=true then _ else _) Q E s
       rw[if_neg (by intro h; rw[hn,Bool.false_and]at h; cases h)]
       exact wpAny_pure hQ))
noncomputable def Itl (K:PySem.W.Frag) (a:Addr):It:=
 ⟨fun i H=>∃ xs x,SqL K H a xs/\xs[i]? = some x,fun i H x H'=>H'=H/\∀ xs,SqL K H a xs->xs[i]? = some x,fun i H=>∃ xs,SqL K H a xs/\xs.length<=i⟩
noncomputable def Itt (K:PySem.W.Frag) (a:Addr):It:=
 ⟨fun i H=>∃ xs x,SqT K H a xs/\xs[i]? = some x,fun i H x H'=>H'=H/\∀ xs,SqT K H a xs->xs[i]? = some x,fun i H=>∃ xs,SqT K H a xs/\xs.length<=i⟩
noncomputable def Itr (lo:Int) (n:Nat):It:=⟨fun i _=>i<n,fun i H x H'=>H'=H/\x = .int (lo+i),fun i _=>n<=i⟩
theorem Bw {P:Program} {w:World} {K:PySem.W.Frag} {tg:Expr} (a it:Addr):Turn P w K tg (Itl K a) [it] it (fun i h=>h.IsListIter it a i) where
 mem:=by simp
 obj:=fun i h st b hb=>by
  have e:b=it:=by simpa using hb
  subst e
  obtain⟨o,e,c,d⟩:=st
  exact⟨o,e,fun v z=>by rw[d]at z; cases z⟩
 keep:=fun i h h' st k=>st.at fun o e=>k it (by simp) o e
 item:=by
  intro X hP hw hK hc i pins s σ H E I hf st hg
  subst hP hw hK
  obtain⟨xs,x,hq,hx⟩:=hg
  obtain⟨its,rv,p,hz⟩:=I.list hq
  obtain⟨u,hu,ru⟩:=rv.get hx
  obtain⟨f0,f1,f2,f3,f4,f5⟩:=hf it (by simp)
  refine wpAny_pyNext_list_item st p.isList (x:=u) (by simpa using hu) fun h' st' sb=>?_
  have I1:Inv X pins σ H { s with heap:=h' }:=I.turned (t':=s.toks) (fun b o hb e=>(sb.2 b hb).trans e) f0 f1 f3 f4 f5
  obtain⟨o,e,c,d⟩:=id st'
  exact⟨u,rfl,Ba (s:={ s with heap:=h' }) e c d (by decide) ⟨x,H,I1,ru,⟨rfl,fun ys hy=>by rw[I.list_inj hy hq]; exact hx⟩,st',fun b hb=>(hf b hb).1⟩⟩
 done:=by
  intro X hP hw hK hc i pins s σ H E I hf st hg
  subst hP hw hK
  obtain⟨xs,hq,hx⟩:=hg
  obtain⟨its,rv,p,hz⟩:=I.list hq
  obtain⟨f0,f1,f2,f3,f4,f5⟩:=hf it (by simp)
  have hl:=rv.length
  exact wpAny_pyNext_list_end (I.ok.hd hc) st p.isList (by simp; omega) fun h' eb=>⟨rfl,I.turned (t':=s.toks) (fun b o hb e=>eb b o hb e) f0 f1 f3 f4 f5⟩
 self:=fun _ _ _ _ _ st h=>wpAny_pyIter_listiter st h
theorem AJ {P:Program} {w:World} {K:PySem.W.Frag} {tg:Expr} (a it:Addr):Turn P w K tg (Itt K a) [it] it (fun i h=>h.IsTupleIter it a i) where
 mem:=by simp
 obj:=fun i h st b hb=>by
  have e:b=it:=by simpa using hb
  subst e
  obtain⟨o,e,c,d⟩:=st
  exact⟨o,e,fun v z=>by rw[d]at z; cases z⟩
 keep:=fun i h h' st k=>st.at fun o e=>k it (by simp) o e
 item:=by
  intro X hP hw hK hc i pins s σ H E I hf st hg
  subst hP hw hK
  obtain⟨xs,x,hq,hx⟩:=hg
  obtain⟨its,rv,p,hz⟩:=I.tuple hq
  obtain⟨u,hu,ru⟩:=rv.get hx
  obtain⟨f0,f1,f2,f3,f4,f5⟩:=hf it (by simp)
  refine wpAny_pyNext_tuple_item st (show s.heap.IsTuple a its.toArray from p) (x:=u) (by simpa using hu) fun h' st' sb=>?_
  have I1:Inv X pins σ H { s with heap:=h' }:=I.turned (t':=s.toks) (fun b o hb e=>(sb.2 b hb).trans e) f0 f1 f3 f4 f5
  obtain⟨o,e,c,d⟩:=id st'
  exact⟨u,rfl,Ba (s:={ s with heap:=h' }) e c d (by decide) ⟨x,H,I1,ru,⟨rfl,fun ys hy=>by rw[I.tuple_inj hy hq]; exact hx⟩,st',fun b hb=>(hf b hb).1⟩⟩
 done:=by
  intro X hP hw hK hc i pins s σ H E I hf st hg
  subst hP hw hK
  obtain⟨xs,hq,hx⟩:=hg
  obtain⟨its,rv,p,hz⟩:=I.tuple hq
  obtain⟨f0,f1,f2,f3,f4,f5⟩:=hf it (by simp)
  have hl:=rv.length
  exact wpAny_pyNext_tuple_end (I.ok.hd hc) st (show s.heap.IsTuple a its.toArray from p) (by simp; omega) fun h' eb=>⟨rfl,I.turned (t':=s.toks) (fun b o hb e=>eb b o hb e) f0 f1 f3 f4 f5⟩
 self:=fun _ _ _ _ _ st h=>wpAny_pyIter_tupleiter st h
theorem AL {P:Program} {w:World} {K:PySem.W.Frag} {tg:Expr} (it:Addr) (lo:Int) (n:Nat):Turn P w K tg (Itr lo n) [it] it (fun i h=>IsRangeIter h it (lo+(i:Nat) * 1) ((n:Int) - (i:Nat)) 1) where
 mem:=by simp
 obj:=fun i h st b hb=>by
  have e:b=it:=by simpa using hb
  subst e
  exact⟨_,st,fun v z=>by
   have z':Data.fields _=Data.cell v:=z
   cases z'⟩
 keep:=fun i h h' st k=>k it (by simp) _ st
 item:=by
  intro X hP hw hK hc i pins s σ H E I hf st hg
  subst hP hw hK
  obtain⟨f0,f1,f2,f3,f4,f5⟩:=hf it (by simp)
  have W:=Walks.range (prog:=X.prog) (w:=X.w) (I.ok.hd hc) it lo 1 n
  refine W.item i s _ _ hg st fun v h' tk hv st' kk=>?_
  obtain⟨t,rfl⟩:=hv
  have I1:Inv X pins σ H { s with heap:=h',toks:=tk }:=I.turned (fun b o hb e=>kk b o (by simpa using hb) e) f0 f1 f3 f4 f5
  refine⟨_,rfl,Ba (s:={ s with heap:=h',toks:=tk }) (n:="range_iterator") st' rfl rfl (by decide) ⟨.int (lo+i),H,I1,⟨t,?_⟩,⟨rfl,rfl⟩,st',fun b hb=>(hf b hb).1⟩⟩
  rw[Int.mul_one]
 done:=by
  intro X hP hw hK hc i pins s σ H E I hf st hg
  subst hP hw hK
  obtain⟨f0,f1,f2,f3,f4,f5⟩:=hf it (by simp)
  exact wpAny_pyNext_range_end (I.ok.hd hc) st (by have:n<=i:=hg; omega) fun h' eb=>⟨rfl,I.turned (t':=s.toks) (fun b o hb e=>eb b o hb e) f0 f1 f3 f4 f5⟩
 self:=fun _ _ _ _ _ st h=>wpAny_pyIter_rangeiter st h
end L2
namespace L2
open PySem PySem.Spec PyProof.Rows
section
variable {X:Cx} {tg:Expr}
noncomputable def Fs (K:PySem.W.Frag) (tl:TE):TI:=fun σ H R=>tl σ H fun x H1=>∃ a,x = .ref a/\(∃ xs,SqL K H1 a xs)/\R (Itl K a) H1
noncomputable def iTup (K:PySem.W.Frag) (tl:TE):TI:=fun σ H R=>tl σ H fun x H1=>∃ a,x = .ref a/\(∃ xs,SqT K H1 a xs)/\R (Itt K a) H1
theorem E7 {l:Expr} {tl:TE} (hl:PE X l tl):PI X tg l (Fs X.K tl):=by
 intro pins s σ H R I h
 refine thn (hl pins s σ H _ I h) fun v s1 zQq=>?_
 obtain⟨x,H1,I1,r1,q1⟩:=zQq
 obtain⟨a,e,⟨xs,hq⟩,q⟩:=q1
 subst e
 cases r1
 obtain⟨its,rv,p,hz⟩:=I1.list hq
 refine wpAny_pyIter_list p.isList ?_
 refine⟨s1.heap.objs.size,[s1.heap.objs.size],_,_,H1,rfl,I1.kept (t':=s1.toks) fun b o e=>Heap.get?_push_of_some _ e,Bw a _,⟨_,Heap.get?_push_size _ rfl,rfl,rfl⟩,fun b hb=>?_,q⟩
 have e:b=s1.heap.objs.size:=by simpa using hb
 subst e
 exact I1.fpOk (Nat.le_refl _) (I1.hok.fresh (Nat.le_refl _))
theorem GG {l:Expr} {tl:TE} (hl:PE X l tl):PI X tg l (iTup X.K tl):=by
 intro pins s σ H R I h
 refine thn (hl pins s σ H _ I h) fun v s1 zQq=>?_
 obtain⟨x,H1,I1,r1,q1⟩:=zQq
 obtain⟨a,e,⟨xs,hq⟩,q⟩:=q1
 subst e
 cases r1
 obtain⟨its,rv,p,hz⟩:=I1.tuple hq
 refine wpAny_pyIter_tuple (show s1.heap.IsTuple a its.toArray from p) ?_
 refine⟨s1.heap.objs.size,[s1.heap.objs.size],_,_,H1,rfl,I1.kept (t':=s1.toks) fun b o e=>Heap.get?_push_of_some _ e,AJ a _,⟨_,Heap.get?_push_size _ rfl,rfl,rfl⟩,fun b hb=>?_,q⟩
 have e:b=s1.heap.objs.size:=by simpa using hb
 subst e
 exact I1.fpOk (Nat.le_refl _) (I1.hok.fresh (Nat.le_refl _))
theorem DF {pins:List (Addr × Obj)} {σ : St} {H:Hp} {s:Shared} {R:It->Hp->Prop} {E:Value->Shared->Prop} {lo hi:Int} {t u v:Tok} {tk:Nat} (I:Inv X pins σ H s) (h1:-(2 ^ 62)<=lo) (h2:lo<2 ^ 62) (h3:-(2 ^ 62)<=hi) (h4:hi<2 ^ 62)
  (q:R (Itr lo (hi - lo).toNat) H):wpAny (model X.prog X.w) X.A (pyIter (.ref s.heap.objs.size)) (PIE X pins σ tg R) E { s with heap:=s.heap.push { cls:=.type "range",data:=.fields #[.int lo t,.int hi u,.int 1 v] },toks:=tk }:=by
 refine wpAny_pyIter_range (IsRange.new ..) (small_one h1 h2 h3 h4) ?_
 have I1:Inv X pins σ H { s with heap:=s.heap.push { cls:=.type "range",data:=.fields #[.int lo t,.int hi u,.int 1 v] },toks:=tk }:=I.kept fun b o e=>Heap.get?_push_of_some _ e
 refine⟨(s.heap.push { cls:=.type "range",data:=.fields #[.int lo t,.int hi u,.int 1 v] }).objs.size,[(s.heap.push { cls:=.type "range",data:=.fields #[.int lo t,.int hi u,.int 1 v] }).objs.size],_,_,H,rfl,
  I1.kept (t':=tk) fun b o e=>Heap.get?_push_of_some _ e,AL _ lo (hi - lo).toNat,?_,fun b hb=>?_,q⟩
 ·have e1:lo+((0:Nat):Int) * 1=lo:=by simp
  have e2:(((hi - lo).toNat:Nat):Int) - ((0:Nat):Int)=Builtin.Range.rangeSize lo hi 1:=by rw[rangeSize_one]; split <;> omega
  show IsRangeIter _ _ (lo+((0:Nat):Int) * 1) ((((hi - lo).toNat:Nat):Int) - ((0:Nat):Int)) 1
  rw[e1,e2]
  exact Heap.get?_push_size _ rfl
 ·have e:b=(s.heap.push { cls:=.type "range",data:=.fields #[.int lo t,.int hi u,.int 1 v] }).objs.size:=by simpa using hb
  subst e
  exact I1.fpOk (Nat.le_refl _) (I1.hok.fresh (Nat.le_refl _))
noncomputable def iRng1 (ta:TA):TI:=fun σ H R=>ta σ H fun vs H1=>∃ j:Int,vs=[.int j]/\-(2 ^ 62)<=j/\j<2 ^ 62/\R (Itr 0 j.toNat) H1
theorem pH {a:Expr} {ta:TA} {p pos:Pos} (hg:Gl X "range") (hm:X.mg "range" = none) (ha:PA X [a] ta) (hs:starEach [a] X.env=[(false,eval a X.env)]:=by rfl):PI X tg (.Call (.Name "range" p) [a] [] pos) (iRng1 ta):=by
 intro pins s σ H R I h
 refine Call_ (mX I hg hm boot_range (PyProof.Rows.callWith_type1 (thn (ha pos pins s σ H _ I h) fun us s1 zQq=>?_) hs rfl))
 obtain⟨vs,H1,I1,r1,q1⟩:=zQq
 obtain⟨j,e,q1,q2,q⟩:=q1
 subst e
 cases r1 with
 | cons r rr=>
  cases rr
  obtain⟨t,rfl⟩:=r
  exact call_range_1 (DF I1 (by omega) (by omega) q1 q2 (by simpa using q))
noncomputable def tFor (wi:TI) (g:TG) (tb:TS):TS:=fun D σ H=>wi σ H fun J H1=>∃ W:Nat->Nat->St->Hp->Prop,(∃ m,W 0 m σ H1)/\∀ i m σ H,W i m σ H->
 (J.stop i H/\D.nx σ H)\/(J.go i H/\∃ N:St->Hp->Prop,(∀ σ' H',N σ' H'->∃ m',m'<m/\W (i+1) m' σ' H')/\∀ x H',J.yld i H x H'->g x σ H' fun σ2 H2=>tb { D with nx:=N,ct:=N,bk:=D.nx } σ2 H2)
noncomputable def sI (fp:List Addr) (h:Heap):List (Addr × Obj):=fp.filterMap fun b=>(h.get? b).map fun o=>(b,o)
theorem j5 {fp:List Addr} {h:Heap} {b:Addr} {o:Obj} (hb:b∈fp) (e:h.get? b=some o):(b,o)∈sI fp h:=List.mem_filterMap.mpr ⟨b,hb,by rw[e]; rfl⟩
theorem CN {fp:List Addr} {h:Heap} {p:Addr × Obj} (hp:p∈sI fp h):p.1∈fp/\h.get? p.1=some p.2:=by
 obtain⟨b,hb,e⟩:=List.mem_filterMap.mp hp
 cases q:h.get? b with
 | none=>rw[q]at e; cases e
 | some o=>
  rw[q]at e
  have e':(b,o)=p:=Option.some.inj e
  subst e'
  exact⟨hb,q⟩
theorem Inv.pinned {pins:List (Addr × Obj)} {σ : St} {H:Hp} {s:Shared} {fp:List Addr} (I:Inv X pins σ H s) (hf:∀ b∈fp,qM X pins H b) (ho:∀ b∈fp,∃ o,s.heap.get? b=some o/\∀ v,o.data ≠ .cell v):Inv X (pins++sI fp s.heap) σ H s:=
 I.pins_of fun p hp=>(List.mem_append.mp hp).elim (fun z=>I.pin p (List.mem_append_right _ z)) fun z=>by
  obtain⟨hb,e⟩:=CN z
  obtain⟨f0,f1,f2,_⟩:=hf p.1 hb
  obtain⟨o,e',d⟩:=ho p.1 hb
  rw[e]at e'; cases e'
  exact⟨e,f0,f1,f2,d⟩
theorem Inv.unpinned {pins pl:List (Addr × Obj)} {σ : St} {H:Hp} {s:Shared} (I:Inv X (pins++pl) σ H s):Inv X pins σ H s:=I.pins_of fun p hp=>I.pin p (List.mem_append_right _ (List.mem_append_left _ hp))
theorem jW {iter:Expr} {body:List Stmt} {wi:TI} {g:TG} {tb:TS} {pos:Pos} (hp:PassesOwn (model X.prog X.w) X.A X.env X.xe) (hc:X.calm=true) (hi:PI X tg iter wi) (hg:PG X tg g) (hb:PSs X body tb)
  (hs:∀ x,foldedSetIterable iter X.env x=pure x:=by intro _; rfl):PS X (.For tg iter body [] pos) (tFor wi g tb):=by
 intro pins s σ H D I h
 refine wpAny_For (thn (hi pins s σ H _ I h) fun v s1 h1=>thn h1 fun itv s2 h2=>?_) hs
 obtain⟨it,fp,tn,J,H2,e,I2,T,st2,f2,W,⟨m0,w0⟩,turn⟩:=h2
 subst e
 -- what stays true of the iterator's objects through the loop
 have stat:∀ {H':Hp},(∀ b∈fp,H' b=none)->∀ b∈fp,qM X pins H' b:=fun hn b hb=>⟨hn b hb,(f2 b hb).2⟩
 refine codeAny_forLoop_any (fun n s'=>∃ i σ' H',Inv X pins σ' H' s'/\tn i s'.heap/\(∀ b∈fp,H' b=none)/\W i n σ' H') ?_ m0 ⟨0,σ,H2,I2,st2,fun b hb=>(f2 b hb).1,w0⟩
 rintro n s3 ⟨i,σ3,H3,I3,st3,fr3,w3⟩
 rcases turn i n σ3 H3 w3 with ⟨stop,qn⟩ | ⟨go,N,hN,step⟩
 ·refine wpAny_passesOwn hp (thn (T.done X rfl rfl rfl hc i pins s3 σ3 H3 X.xe I3 (stat fr3) st3 stop) fun r s4 zQq=>?_)
  obtain⟨hr,I4⟩:=zQq
  subst hr
  exact wpAny_execs_nil ⟨σ3,H3,I4,qn⟩
 ·refine wpAny_passesOwn hp (thn (T.item X rfl rfl rfl hc i pins s3 σ3 H3 X.xe I3 (stat fr3) st3 go) fun r s4 zQq=>?_)
  obtain⟨u,hr,h4⟩:=zQq
  subst hr
  refine wpAny_passesOwn hp (thn h4 fun _ s5 zQq=>?_)
  obtain⟨x,H5,I5,r5,y5,st5,fr5⟩:=zQq
  have I5':=I5.pinned (stat fr5) (T.obj _ _ st5)
  refine wpAny_passesOwn hp (thn (hg _ s5 σ3 H5 x u _ I5' r5 (step x H5 y5)) fun _ s6 zQq=>?_)
  obtain⟨σ6,H6,I6,q6⟩:=zQq
  refine wpAny_passesOwn hp (thn (hb _ s6 σ6 H6 _ I6 q6) fun f s7 q7=>?_)
  have again:∀ {σ7:St} {H7:Hp},Inv X (pins++sI fp s5.heap) σ7 H7 s7->N σ7 H7->∃ m,m<n/\∃ i σ' H',Inv X pins σ' H' s7/\tn i s7.heap/\(∀ b∈fp,H' b=none)/\W i m σ' H':=fun {σ7 H7} I7 n7=>by
   obtain⟨m',hm,w7⟩:=hN σ7 H7 n7
   refine⟨m',hm,i+1,σ7,H7,I7.unpinned,T.keep _ _ _ st5 fun b hb o e=>(I7.pin (b,o) (List.mem_append_right _ (List.mem_append_right _ (j5 hb e)))).1,fun b hb=>?_,w7⟩
   obtain⟨o,e,d⟩:=T.obj _ _ st5 b hb
   exact(I7.pin (b,o) (List.mem_append_right _ (List.mem_append_right _ (j5 hb e)))).2.1
  cases f with
  | next=>obtain⟨σ7,H7,I7,n7⟩:=q7; exact again I7 n7
  | cont=>obtain⟨σ7,H7,I7,n7⟩:=q7; exact again I7 n7
  | brk=>obtain⟨σ7,H7,I7,q7⟩:=q7; exact⟨σ7,H7,I7.unpinned,q7⟩
  | ret v=>obtain⟨x7,σ7,H7,I7,r7,q7⟩:=q7; exact⟨x7,σ7,H7,I7.unpinned,r7,q7⟩
end
end L2
namespace L2
open PySem PySem.Spec PyProof.Rows
noncomputable abbrev R2:=V->V->Hp->VK->Prop
noncomputable def OpR (X:Cx) (f:Value->Value->Sem Value) (r:R2):Prop:=
 ∀ (pins:List (Addr × Obj)) (s:Shared) (σ : St) (H:Hp) (x y:V) (v u:Value) (Q:VK),Inv X pins σ H s->bU x v->bU y u->r x y H Q->
  wpAny (model X.prog X.w) X.A (f v u) (EP X pins σ Q) X.xe s
noncomputable def UnR (X:Cx) (f:Value->Sem Value) (r:V->Hp->VK->Prop):Prop:=
 ∀ (pins:List (Addr × Obj)) (s:Shared) (σ : St) (H:Hp) (x:V) (v:Value) (Q:VK),Inv X pins σ H s->bU x v->r x H Q->
  wpAny (model X.prog X.w) X.A (f v) (EP X pins σ Q) X.xe s
noncomputable def eX (X:Cx) (f:Value) (r:List V->Hp->VK->Prop):Prop:=
 ∀ (pins:List (Addr × Obj)) (s:Shared) (σ : St) (H:Hp) (xs:List V) (us:List Value) (Q:VK),Inv X pins σ H s->bQ xs us->r xs H Q->
  wpAny (model X.prog X.w) X.A (call f us) (EP X pins σ Q) X.xe s
noncomputable def TruR (X:Cx) (r:V->Hp->(Bool->Hp->Prop)->Prop):Prop:=
 ∀ (pins:List (Addr × Obj)) (s:Shared) (σ : St) (H:Hp) (x:V) (v:Value) (Q:Bool->Hp->Prop),Inv X pins σ H s->bU x v->r x H Q->
  wpAny (model X.prog X.w) X.A (truthy v) (TP X pins σ Q) X.xe s
noncomputable def tOp (r:R2) (ta tb:TE):TE:=fun σ H Q=>ta σ H fun x H1=>tb σ H1 fun y H2=>r x y H2 Q
noncomputable def tUn (r:V->Hp->VK->Prop) (ta:TE):TE:=fun σ H Q=>ta σ H fun x H1=>r x H1 Q
noncomputable def rI (C:Int->Int->Prop) (g:Int->Int->V):R2:=fun x y H Q=>∃ i j,x = .int i/\y = .int j/\C i j/\Q (g i j) H
noncomputable def rI0 (g:Int->Int->V):R2:=fun x y H Q=>∃ i j,x = .int i/\y = .int j/\Q (g i j) H
noncomputable def rU (g:Int->V):V->Hp->VK->Prop:=fun x H Q=>∃ i,x = .int i/\Q (g i) H
section
variable {X:Cx} {a b c:Expr} {ta tb tc:TE} {pos:Pos}
theorem Gn (ha:PE X a ta) (hb:PE X b tb) {pins:List (Addr × Obj)} {s:Shared} {σ : St} {H:Hp} {R:V->V->Hp->Prop} (I:Inv X pins σ H s)
  (h:ta σ H fun x H1=>tb σ H1 fun y H2=>R x y H2) {Q:Value->Shared->Prop} {f:Value->Value->Sem Value}
  (hf:∀ v u s2 x y H2,Inv X pins σ H2 s2->bU x v->bU y u->R x y H2->wpAny (model X.prog X.w) X.A (f v u) Q X.xe s2) :
  wpAny (model X.prog X.w) X.A (eval a X.env) (fun v s₁=>wpAny (model X.prog X.w) X.A (eval b X.env) (fun u s₂=>wpAny (model X.prog X.w) X.A (f v u) Q X.xe s₂) X.xe s₁) X.xe s:=by
 refine thn (ha pins s σ H _ I h) fun v s1 zQq=>?_
 obtain⟨x,H1,I1,r1,q1⟩:=zQq
 refine thn (hb pins s1 σ H1 _ I1 q1) fun u s2 zQq=>?_
 obtain⟨y,H2,I2,r2,q2⟩:=zQq
 exact hf v u s2 x y H2 I2 r1 r2 q2
theorem bO {op:Operator} {r:R2} (ho:OpR X (binaryOp op) r) (ha:PE X a ta) (hb:PE X b tb):PE X (.BinOp a op b pos) (tOp r ta tb):=by
 intro pins s σ H Q I h
 exact wpAny_BinOp (Gn ha hb I h fun v u s2 x y H2 I2 rx ry q=>ho pins s2 σ H2 x y v u Q I2 rx ry q)
theorem DY {op:UnaryOp} {r:V->Hp->VK->Prop} (ho:UnR X (unaryOp op) r) (ha:PE X a ta):PE X (.UnaryOp op a pos) (tUn r ta):=by
 intro pins s σ H Q I h
 exact UnaryOp_ (thn (ha pins s σ H _ I h) fun v s1 ⟨x,H1,I1,r1,q1⟩=>ho pins s1 σ H1 x v Q I1 r1 q1)
theorem opI {f:Value->Value->Sem Value} {C:Int->Int->Prop} {g:Int->Int->Int}
  (rule:∀ (i j:Int) (t u:Tok) (s:Shared) (Q:Value->Shared->Prop) (E:Value->Shared->Prop),C i j->Q (.int (g i j) s.toks) { s with toks:=s.toks+1 }->wpAny (model X.prog X.w) X.A (f (.int i t) (.int j u)) Q E s) :
  OpR X f (rI C fun i j=>.int (g i j)):=by
 intro pins s σ H x y v u Q I rx ry h
 obtain⟨i,j,rfl,rfl,hc,q⟩:=h
 obtain⟨t,rfl⟩:=rx
 obtain⟨t',rfl⟩:=ry
 exact rule i j t t' s _ _ hc ⟨.int (g i j),H,I.tok _,⟨_,rfl⟩,q⟩
theorem opI0 {f:Value->Value->Sem Value} {g:Int->Int->Int}
  (rule:∀ (i j:Int) (t u:Tok) (s:Shared) (Q:Value->Shared->Prop) (E:Value->Shared->Prop),Q (.int (g i j) s.toks) { s with toks:=s.toks+1 }->wpAny (model X.prog X.w) X.A (f (.int i t) (.int j u)) Q E s) :
  OpR X f (rI0 fun i j=>.int (g i j)):=by
 intro pins s σ H x y v u Q I rx ry h
 obtain⟨i,j,rfl,rfl,q⟩:=h
 obtain⟨t,rfl⟩:=rx
 obtain⟨t',rfl⟩:=ry
 exact rule i j t t' s _ _ ⟨.int (g i j),H,I.tok _,⟨_,rfl⟩,q⟩
theorem FF {f:Value->Value->Sem Value} {g:Int->Int->Bool}
  (rule:∀ (i j:Int) (t u:Tok) (s:Shared) (Q:Value->Shared->Prop) (E:Value->Shared->Prop),Q (.bool (g i j)) s->wpAny (model X.prog X.w) X.A (f (.int i t) (.int j u)) Q E s) :
  OpR X f (rI0 fun i j=>.bl (g i j)):=by
 intro pins s σ H x y v u Q I rx ry h
 obtain⟨i,j,rfl,rfl,q⟩:=h
 obtain⟨t,rfl⟩:=rx
 obtain⟨t',rfl⟩:=ry
 exact rule i j t t' s _ _ ⟨.bl (g i j),H,I,rfl,q⟩
noncomputable def CDiv (i j:Int):Prop:=0<j/\j<1073741824
noncomputable def CPow (i j:Int):Prop:=0<=j/\j<=1000000/\i.natAbs<2 ^ 64
noncomputable def Fk (i j:Int):Prop:=(-(2 ^ 64)<i/\i<2 ^ 64)\/(-(2 ^ 64)<j/\j<2 ^ 64)
theorem Fk.ok {i j:Int} (h:Fk i j):IntMulOk i j:=by
 rcases h with ⟨h1,h2⟩ | ⟨h1,h2⟩
 ·exact .of_left (intBits_le_64 h1 h2)
 ·exact .of_right (intBits_le_64 h1 h2)
theorem cZ:OpR X (binaryOp .Add) (rI0 fun i j=>.int (i+j)):=opI0 fun _ _ _ _ _ _ _ q=>add_int q
theorem pM:OpR X (binaryOp .Sub) (rI0 fun i j=>.int (i - j)):=opI0 fun _ _ _ _ _ _ _ q=>sub_int q
theorem pN:OpR X (binaryOp .Mult) (rI Fk fun i j=>.int (i * j)):=opI fun _ _ _ _ _ _ _ hc q=>mul_int q hc.ok
theorem xH:OpR X (binaryOp .FloorDiv) (rI CDiv fun i j=>.int (i / j)):=opI fun i j _ _ _ _ _ hc q=>by
 have h1:(0:Int)<j:=hc.1
 have h2:j<1073741824:=hc.2
 exact floordiv_int (by omega) (by rw[Int.fdiv_eq_ediv_of_nonneg i (by omega)]; exact q) (.inl (PyProof.noPylong_small (by omega)))
theorem j4:OpR X (binaryOp .Mod) (rI (fun _ j=>0<j) fun i j=>.int (i % j)):=opI fun i j _ _ _ _ _ hc q=>by
 have h1:(0:Int)<j:=hc
 exact mod_int' (by omega) (by rw[Int.fmod_eq_emod_of_nonneg i (by omega)]; exact q)
theorem GO:OpR X (binaryOp .Pow) (rI CPow fun i j=>.int (i ^ j.toNat)):=opI fun _ _ _ _ _ _ _ hc q=>pow_int_small hc.1 hc.2.1 hc.2.2 q
theorem unI {f:Value->Sem Value} {g:Int->Int}
  (rule:∀ (i:Int) (t:Tok) (s:Shared) (Q:Value->Shared->Prop) (E:Value->Shared->Prop),Q (.int (g i) s.toks) { s with toks:=s.toks+1 }->wpAny (model X.prog X.w) X.A (f (.int i t)) Q E s) :
  UnR X f (rU fun i=>.int (g i)):=by
 intro pins s σ H x v Q I rx h
 obtain⟨i,rfl,q⟩:=h
 obtain⟨t,rfl⟩:=rx
 exact rule i t s _ _ ⟨.int (g i),H,I.tok _,⟨_,rfl⟩,q⟩
theorem AH:UnR X (unaryOp .USub) (rU fun i=>.int (-i)):=unI fun _ _ _ _ _ q=>neg_int q
end
noncomputable def scal:V->V->Bool
 | .non,.non=>true | .non,.int _=>true | .int _,.non=>true | .non,.bl _=>true | .bl _,.non=>true | .non,.str _=>true | .str _,.non=>true
 | .int _,.int _=>true | .bl _,.bl _=>true | .str _,.str _=>true | .byt _,.byt _=>true
 | .int _,.str _=>true | .str _,.int _=>true | .bl _,.str _=>true | .str _,.bl _=>true
 | _,_=>false
noncomputable def rEq:R2:=fun x y H Q=>scal x y=true/\Q (.bl (decide (x=y))) H
noncomputable def rNe:R2:=fun x y H Q=>scal x y=true/\Q (.bl (!decide (x=y))) H
theorem Bm {i j:Int}:decide (V.int i=V.int j)=(i == j):=by
 rw[Bool.eq_iff_iff]
 simp
theorem EO {i j:Bool}:decide (V.bl i=V.bl j)=(i == j):=by
 rw[Bool.eq_iff_iff]
 simp
theorem Bl {i j:Str}:decide (V.str i=V.str j)=(i == j):=by
 rw[Bool.eq_iff_iff]
 simp
theorem Bo {i j:Array UInt8}:decide (V.byt i=V.byt j)=(i.toList == j.toList):=by
 rw[Bool.eq_iff_iff]
 cases i
 cases j
 simp
section
variable {X:Cx} {a b c:Expr} {ta tb tc:TE} {pos:Pos}
theorem bS {pins:List (Addr × Obj)} {σ : St} {H:Hp} {s:Shared} {Q:VK} {k k':Bool} (I:Inv X pins σ H s) (q:Q (.bl k) H) (e:k=k'):EP X pins σ Q (.bool k') s:=by
 subst e
 exact⟨.bl k,H,I,rfl,q⟩
theorem lA:OpR X (compareOp .Eq) rEq:=by
 intro pins s σ H x y v u Q I rx ry h
 obtain⟨hs,q⟩:=h
 cases x with
 | non=>
  cases rx
  cases y with
  | non=>cases ry; exact PySem.EqNone.eq_none_none (bS I q (by simp))
  | bl j=>cases ry; exact PySem.EqNone.eq_none_bool (bS I q (by simp))
  | int j=>obtain⟨t',rfl⟩:=ry; exact PySem.EqNone.eq_none_int (bS I q (by simp))
  | str j=>obtain⟨t',rfl⟩:=ry; exact PySem.EqNone.eq_none_str (bS I q (by simp))
  | _=>exact absurd (show false=true from hs) Bool.false_ne_true
 | bl i=>
  cases rx
  cases y with
  | non=>cases ry; exact PySem.EqNone.eq_bool_none (bS I q (by simp))
  | bl j=>cases ry; exact eq_bool (bS I q EO)
  | str j=>obtain⟨t',rfl⟩:=ry; exact PySem.EqMixed.eq_bool_str (bS I q (by simp))
  | _=>exact absurd (show false=true from hs) Bool.false_ne_true
 | int i=>
  obtain⟨t,rfl⟩:=rx
  cases y with
  | non=>cases ry; exact PySem.EqNone.eq_int_none (bS I q (by simp))
  | int j=>obtain⟨t',rfl⟩:=ry; exact eq_int (bS I q Bm)
  | str j=>obtain⟨t',rfl⟩:=ry; exact PySem.EqMixed.eq_int_str (bS I q (by simp))
  | _=>exact absurd (show false=true from hs) Bool.false_ne_true
 | str i=>
  obtain⟨t,rfl⟩:=rx
  cases y with
  | non=>cases ry; exact PySem.EqNone.eq_str_none (bS I q (by simp))
  | bl j=>cases ry; exact PySem.EqMixed.eq_str_bool (bS I q (by simp))
  | int j=>obtain⟨t',rfl⟩:=ry; exact PySem.EqMixed.eq_str_int (bS I q (by simp))
  | str j=>obtain⟨t',rfl⟩:=ry; exact eq_str (bS I q Bl)
  | _=>exact absurd (show false=true from hs) Bool.false_ne_true
 | byt i=>
  obtain⟨t,rfl⟩:=rx
  cases y with
  | byt j=>obtain⟨t',rfl⟩:=ry; exact PySem.W.eq_bytes (bS I q Bo)
  | _=>exact absurd (show false=true from hs) Bool.false_ne_true
 | _=>cases y <;> exact absurd (show false=true from hs) Bool.false_ne_true
theorem kD:OpR X (compareOp .NotEq) rNe:=by
 intro pins s σ H x y v u Q I rx ry h
 obtain⟨hs,q⟩:=h
 cases x with
 | non=>
  cases rx
  cases y with
  | non=>cases ry; exact PySem.EqNone.ne_none_none (bS I q (by simp))
  | bl j=>cases ry; exact PySem.EqNone.ne_none_bool (bS I q (by simp))
  | int j=>obtain⟨t',rfl⟩:=ry; exact PySem.EqNone.ne_none_int (bS I q (by simp))
  | str j=>obtain⟨t',rfl⟩:=ry; exact PySem.EqNone.ne_none_str (bS I q (by simp))
  | _=>exact absurd (show false=true from hs) Bool.false_ne_true
 | bl i=>
  cases rx
  cases y with
  | non=>cases ry; exact PySem.EqNone.ne_bool_none (bS I q (by simp))
  | bl j=>cases ry; exact ne_bool (bS I q (congrArg not EO))
  | str j=>obtain⟨t',rfl⟩:=ry; exact PySem.EqMixed.ne_bool_str (bS I q (by simp))
  | _=>exact absurd (show false=true from hs) Bool.false_ne_true
 | int i=>
  obtain⟨t,rfl⟩:=rx
  cases y with
  | non=>cases ry; exact PySem.EqNone.ne_int_none (bS I q (by simp))
  | int j=>obtain⟨t',rfl⟩:=ry; exact ne_int (bS I q (congrArg not Bm))
  | str j=>obtain⟨t',rfl⟩:=ry; exact PySem.EqMixed.ne_int_str (bS I q (by simp))
  | _=>exact absurd (show false=true from hs) Bool.false_ne_true
 | str i=>
  obtain⟨t,rfl⟩:=rx
  cases y with
  | non=>cases ry; exact PySem.EqNone.ne_str_none (bS I q (by simp))
  | bl j=>cases ry; exact PySem.EqMixed.ne_str_bool (bS I q (by simp))
  | int j=>obtain⟨t',rfl⟩:=ry; exact PySem.EqMixed.ne_str_int (bS I q (by simp))
  | str j=>obtain⟨t',rfl⟩:=ry; exact ne_str (bS I q (congrArg not Bl))
  | _=>exact absurd (show false=true from hs) Bool.false_ne_true
 | byt i=>
  obtain⟨t,rfl⟩:=rx
  cases y with
  | byt j=>obtain⟨t',rfl⟩:=ry; exact PySem.W.ne_bytes (bS I q (congrArg not Bo))
  | _=>exact absurd (show false=true from hs) Bool.false_ne_true
 | _=>cases y <;> exact absurd (show false=true from hs) Bool.false_ne_true
theorem vE:OpR X (compareOp .Lt) (rI0 fun i j=>.bl (decide (i<j))):=FF fun _ _ _ _ _ _ _ q=>lt_int q
theorem i6:OpR X (compareOp .LtE) (rI0 fun i j=>.bl (decide (i<=j))):=FF fun _ _ _ _ _ _ _ q=>le_int q
theorem vF:OpR X (compareOp .Gt) (rI0 fun i j=>.bl (decide (j<i))):=FF fun _ _ _ _ _ _ _ q=>gt_int q
theorem BV:OpR X (compareOp .GtE) (rI0 fun i j=>.bl (decide (j<=i))):=FF fun _ _ _ _ _ _ _ q=>ge_int q
theorem CC:OpR X (compareOp .In) (fun x y H Q=>∃ i j,x = .str i/\y = .str j/\Q (.bl (!(Builtin.Str.occurrences j i 0 j.length 1).isEmpty)) H):=by
 intro pins s σ H x y v u Q I rx ry h
 obtain⟨i,j,rfl,rfl,q⟩:=h
 obtain⟨t,rfl⟩:=rx
 obtain⟨t',rfl⟩:=ry
 exact in_str (bS I q rfl)
theorem xE:OpR X (compareOp .IsNot) (fun x y H Q=>y = .non/\Q (.bl (!decide (x = .non))) H):=by
 intro pins s σ H x y v u Q I rx ry h
 obtain⟨rfl,q⟩:=h
 cases ry
 refine isnot_none_gen (bS I q ?_)
 cases x <;> first
  | (cases rx; rfl)
  | (obtain⟨t,rfl⟩:=rx; rfl)
theorem aX (b:Expr) {op:CmpOp} (h:op ≠ .In:=by decide) (h2:op ≠ .NotIn:=by decide):behindInMarks op b=false:=by
 have e1:(op == CmpOp.In)=false:=by cases op <;> first | rfl | exact absurd rfl h
 have e2:(op == CmpOp.NotIn)=false:=by cases op <;> first | rfl | exact absurd rfl h2
 cases b <;> simp [behindInMarks,e1,e2]
theorem jZ {op:CmpOp} {r:R2} (ho:OpR X (compareOp op) r) (ha:PE X a ta) (hb:PE X b tb) (hm:behindInMarks op b=false):PE X (.Compare a [op] [b] pos) (tOp r ta tb):=by
 intro pins s σ H Q I h
 exact wpAny_Compare1 (Gn ha hb I h fun v u s2 x y H2 I2 rx ry q=>ho pins s2 σ H2 x y v u Q I2 rx ry q) hm
noncomputable def l9 (t:TE):TT:=fun σ H Q=>t σ H fun x H'=>∃ k,x = .bl k/\Q k H'
theorem aS {op:CmpOp} {r:R2} (ho:OpR X (compareOp op) r) (ha:PE X a ta) (hb:PE X b tb) (hm:behindInMarks op b=false):PT X (.Compare a [op] [b] pos) (l9 (tOp r ta tb)):=by
 intro pins s σ H Q I h
 refine wpAny_isTrue_Compare1 (thn (ha pins s σ H _ I h) fun v s1 ⟨x,H1,I1,r1,q1⟩=>thn (hb pins s1 σ H1 _ I1 q1) fun u s2 ⟨y,H2,I2,r2,q2⟩=>
  thn (ho pins s2 σ H2 x y v u _ I2 r1 r2 q2) fun c s3 ⟨z,H3,I3,r3,k,e,q3⟩=>?_) hm
 subst e
 cases r3
 exact wpAny_truthy_bool ⟨H3,I3,q3⟩
noncomputable def C5 (r r':R2) (ta tb tc:TE):TE:=fun σ H Q=>ta σ H fun x H1=>tb σ H1 fun y H2=>r x y H2 fun z H3=>∃ k,z = .bl k/\
 (if k=true then tc σ H3 fun w' H4=>r' y w' H4 Q else Q (.bl false) H3)
theorem sK {op op':CmpOp} {r r':R2} (ho:OpR X (compareOp op) r) (ho':OpR X (compareOp op') r') (ha:PE X a ta) (hb:PE X b tb) (hc:PE X c tc)
  (hm:lastMarks [op,op'] [b,c]=false:=by with_unfolding_all rfl):PE X (.Compare a [op,op'] [b,c] pos) (C5 r r' ta tb tc):=by
 intro pins s σ H Q I h
 refine Compare_chain (thn (ha pins s σ H _ I h) fun v s1 ⟨x,H1,I1,r1,q1⟩=>chain_link (thn (hb pins s1 σ H1 _ I1 q1) fun u s2 ⟨y,H2,I2,r2,q2⟩=>
  thn (ho pins s2 σ H2 x y v u _ I2 r1 r2 q2) fun d s3 ⟨z,H3,I3,r3,k,e,q3⟩=>?_)) hm
 subst e
 cases r3
 refine wpAny_truthy_bool ?_
 cases k with
 | false=>exact ite_ff ⟨.bl false,H3,I3,rfl,q3⟩
 | true=>exact ite_tt (chain_last (thn (hc pins s3 σ H3 _ I3 q3) fun w' s4 ⟨z',H4,I4,r4,q4⟩=>ho' pins s4 σ H4 y z' u w' Q I4 r2 r4 q4))
theorem yW {op op':CmpOp} {r r':R2} (ho:OpR X (compareOp op) r) (ho':OpR X (compareOp op') r') (ha:PE X a ta) (hb:PE X b tb) (hc:PE X c tc)
  (hm:lastMarks [op,op'] [b,c]=false:=by with_unfolding_all rfl):PT X (.Compare a [op,op'] [b,c] pos) (l9 (C5 r r' ta tb tc)):=by
 intro pins s σ H Q I h
 refine isTrue_chain (thn (ha pins s σ H _ I h) fun v s1 ⟨x,H1,I1,r1,q1⟩=>test_link (thn (hb pins s1 σ H1 _ I1 q1) fun u s2 ⟨y,H2,I2,r2,q2⟩=>
  thn (ho pins s2 σ H2 x y v u _ I2 r1 r2 q2) fun d s3 ⟨z,H3,I3,r3,k,e,q3⟩=>?_)) hm
 subst e
 cases r3
 refine wpAny_truthy_bool ?_
 cases k with
 | false=>
  obtain⟨k',e',q'⟩:=q3
  cases e'
  exact ite_ff ⟨H3,I3,q'⟩
 | true=>
  refine ite_tt (test_last (thn (hc pins s3 σ H3 _ I3 q3) fun w' s4 ⟨z',H4,I4,r4,q4⟩=>thn (ho' pins s4 σ H4 y z' u w' _ I4 r2 r4 q4) fun d' s5 zQq=>?_))
  obtain⟨z2,H5,I5,r5,k2,e2,q5⟩:=zQq
  subst e2
  cases r5
  exact wpAny_truthy_bool ⟨H5,I5,q5⟩
noncomputable def TruV (K:PySem.W.Frag) (x:V) (H:Hp) (k:Bool):Prop:=
 match x with
 | .non=>k=false
 | .bl b=>k=b
 | .int i=>k=(i != 0)
 | .str y=>y.length<=sizeLine/\k=((y.length:Int) != 0)
 | .byt y=>y.size<=sizeLine/\k=((y.size:Int) != 0)
 | .ref p=>(∃ xs,SqL K H p xs/\k = !xs.isEmpty)\/(∃ xs,SqT K H p xs/\k = !xs.isEmpty)\/∃ kvs,H p=some (.dK kvs)/\k = !kvs.isEmpty
 | _=>False
theorem A6 {κ : Type} {kvs:List (κ × V)} {vs:List (κ × Value)} (r:KV kvs vs):(!vs.isEmpty) = !kvs.isEmpty:=by
 cases r <;> rfl
theorem tG {xs:List V} {its:List Value} (r:bQ xs its):(!its.toArray.isEmpty) = !xs.isEmpty:=by
 cases r <;> simp
theorem sY:(sizeLine:Nat)<2 ^ 63:=by rw[sizeLine_eq]; decide
theorem Fw:TruR X (fun x H Q=>∃ k,TruV X.K x H k/\Q k H):=by
 intro pins s σ H x v Q I rx h
 obtain⟨k,e,q⟩:=h
 have hl:=sY
 have hs:sizeLine=16777216:=sizeLine_eq
 cases x with
 | non=>
  cases rx
  have e':k=false:=e
  subst e'
  exact truthy_none ⟨H,I,q⟩
 | bl b=>
  cases rx
  have e':k=b:=e
  subst e'
  exact wpAny_truthy_bool ⟨H,I,q⟩
 | int i=>
  obtain⟨t,rfl⟩:=rx
  have e':k=(i != 0):=e
  subst e'
  exact PySem.P.truthy_int ⟨H,I,q⟩
 | str y=>
  obtain⟨t,rfl⟩:=rx
  obtain⟨hy,e'⟩:y.length<=sizeLine/\k=((y.length:Int) != 0):=e
  subst e'
  exact PySem.P.truthy_str (by omega) ⟨H,I.tok _,q⟩
 | byt y=>
  obtain⟨t,rfl⟩:=rx
  obtain⟨hy,e'⟩:y.size<=sizeLine/\k=((y.size:Int) != 0):=e
  subst e'
  exact PySem.W.truthy_bytes (by omega) ⟨H,I.tok _,q⟩
 | ref p=>
  cases rx
  have e':(∃ xs,SqL X.K H p xs/\k = !xs.isEmpty)\/(∃ xs,SqT X.K H p xs/\k = !xs.isEmpty)\/∃ kvs,H p=some (.dK kvs)/\k = !kvs.isEmpty:=e
  rcases e' with ⟨xs,hx,e'⟩ | ⟨xs,hx,e'⟩ | ⟨kvs,hx,e'⟩
  ·subst e'
   obtain⟨its,r,pl,hz⟩:=I.list hx
   have hlen:=r.length
   exact wpAny_truthy_list pl.isList (by simp only[List.size_toArray]; omega) ⟨H,I.tok _,by rw[tG r]; exact q⟩
  ·subst e'
   obtain⟨its,r,pl,hz⟩:=I.tuple hx
   have hlen:=r.length
   exact truthy_tuple pl (by simp only[List.size_toArray]; omega) ⟨H,I.tok _,by rw[tG r]; exact q⟩
  ·subst e'
   obtain⟨hz,hS,vs,r,m⟩:kvs.length<=sizeLine/\(p == sysModules)=false/\∃ vs,KV kvs vs/\s.heap.DictOf (cE X.prog X.w) p vs:=I.hok p _ hx
   have hlen:kvs.length=vs.length:=Paired.length r
   exact wpAny_truthy_dict hS m (by omega) ⟨H,I.tok _,by rw[A6 r]; exact q⟩
 | _=>exact(show False from e).elim
theorem yL {x:V} {us:List Value} (r:bQ [x] us):∃ u,us=[u]/\bU x u:=by
 cases r with
 | cons r1 r2=>cases r2; exact⟨_,rfl,r1⟩
theorem vals2 {x y:V} {us:List Value} (r:bQ [x,y] us):∃ u w',us=[u,w']/\bU x u/\bU y w':=by
 cases r with
 | cons r1 r2=>
  cases r2 with
  | cons r3 r4=>cases r4; exact⟨_,_,rfl,r1,r3⟩
theorem vX (hc:X.calm=true):eX X (.builtin "max") (fun xs H Q=>∃ i j,xs=[.int i,.int j]/\Q (.int (if j > i then j else i)) H):=by
 intro pins s σ H xs us Q I r h
 obtain⟨i,j,rfl,q⟩:=h
 obtain⟨u,w',rfl,⟨t,rfl⟩,⟨t',rfl⟩⟩:=vals2 r
 refine max_two_ints (I.ok.hd hc) fun h' tk k=>⟨_,H,I.kept k,?_,q⟩
 by_cases hj:j > i
 ·rw[if_pos hj,if_pos hj]; exact⟨_,rfl⟩
 ·rw[if_neg hj,if_neg hj]; exact⟨_,rfl⟩
end
end L2
namespace L2
open PySem PySem.Spec PyProof.Rows
structure ObjM (h:Heap) (x dx C:Addr) (mA:Str->Option Value):Prop where
 obj:h.get? x=some (PySem.W.instObj C dx)
 ns:h.Ns1 dx mA
 ne:dx≠x
theorem CT {h:Heap} {dx:Addr} {mA:Str->Option Value} (n:h.Ns1 dx mA):∃ od,h.get? dx=some od/\∀ name,PySem.W.lookIn name od=some (mA name):=by
 obtain⟨o,es,ep,ho,hd,hk,_,hm⟩:=n
 refine⟨o,ho,fun name=>?_⟩
 have e:=hm name
 unfold nsFind findBy at e
 rw[<- Array.find?_toList]at e
 unfold PySem.W.lookIn
 rw[hd]
 dsimp only
 split
 ·rename_i y q
  rw[q]at e
  exact congrArg some e
 ·rename_i q
  rw[q]at e
  have a:es.toList.any (·.refKey)=false:=by
   rw[List.any_eq_false]
   intro y hy
   obtain⟨z,t,hkey⟩:=hk y (Array.mem_toList_iff.mp hy)
   simp [DictEntry.refKey,hkey]
  have a':¬ es.toList.any (·.refKey)=true:=by rw[a]; exact Bool.false_ne_true
  rw[if_neg a']
  exact congrArg some e
theorem ObjM.look {h:Heap} {x dx C:Addr} {mA:Str->Option Value} (I:ObjM h x dx C mA):∃ od,PySem.W.InstAt h x (PySem.W.instObj C dx) C (some od)/\∀ name,PySem.W.lookIn name od=some (mA name):=
 let ⟨od,ho,hl⟩:=CT I.ns
 ⟨od,⟨I.obj,rfl,rfl,ho⟩,hl⟩
section
variable {prog:Program} {w:World} {A:Around} {E:Value->Shared->Prop} {s:Shared} {K:PySem.W.Frag} {x dx C f:Addr} {mA:Str->Option Value} {name:Str} {v:Value}
theorem FY {expr:Bool} {Q:Value->Shared->Prop} (X:K.In s.heap) (I:ObjM s.heap x dx C mA) (hg:PySem.W.plainGet K C name=true) (hh:PySem.W.hasDictIn K C=true)
  (ha:PySem.W.findIn K (.ref C) name=some none) (hv:mA name=some v) (hv':PySem.W.handedIn v=true) (h:Q v { s with toks:=s.toks+1 }) :
  wpAny (model prog w) A (getAttr (.ref x) name expr) Q E s:=by
 obtain⟨od,J,hl⟩:=I.look
 exact PySem.W.get_value X J (PySem.W.plainGet_of hg).1 (PySem.W.findObj_own hh ha rfl (by rw[hl,hv])) hv' h
theorem D9 {pl:Sem Bool} {Q:Value × List Value->Shared->Prop} (X:K.In s.heap) (I:ObjM s.heap x dx C mA) (hg:PySem.W.plainGet K C name=true)
  (hf:PySem.W.findIn K (.ref C) name=some (some (.ref f))) (ht:PySem.W.isFn K (.ref f)=true) (hv:mA name=none) (h:Q (.ref f,[.ref x]) s) :
  wpAny (model prog w) A (getMethod (.ref x) name pl) Q E s:=by
 obtain⟨od,J,hl⟩:=I.look
 exact PySem.W.method_fn X J (PySem.W.plainGet_of hg).1 (PySem.W.plainGet_of hg).2 hf (beq_iff_eq.mp ht) (by show (PySem.W.lookIn name od).map (·.isSome)=some false; rw[hl,hv]; rfl) h
theorem Ew {ns:List Str} {Q:Unit->Shared->Prop} (X:K.In s.heap) (I:ObjM s.heap x dx C mA)
  (hs:PySem.W.findIn K (.ref C) "__setattr__" = some (some (.builtin "object.__setattr__"))) (hp:PySem.W.plainOver K C=true) (ht:PySem.W.takerIn K C name=some none) (hh:PySem.W.hasDictIn K C=true)
  (hw:PySem.Within mA ns) (hsz:ns.length<=sizeLine)
  (h:∀ h',ObjM h' x dx C (fun y=>if y=name then some v else mA y)->Heap.SameBut dx s.heap h'->Q () { s with heap:=h',toks:=s.toks+2 }) :
  wpAny (model prog w) A (setAttr (.ref x) name v) Q E s:=by
 obtain⟨od,J,hl⟩:=I.look
 refine PySem.W.set_plain X J hs (PySem.W.osa_open (s:={ s with toks:=s.toks+1 }) (r:=none) X J hp ht fun b=>?_)
 obtain⟨cd,hc,hd'⟩:=PySem.W.any_some hh
 have hx:s.heap.get? x=some ⟨.ref C,some dx,.plain,#[]⟩:=I.obj
 refine wpAny_bind (wpAny_pure (wpAny_bind (wpAny_bind (wpAny_loadPart hx (wpAny_bind (PySem.W.Looks.here (s:={ s with toks:=s.toks+1 }) (PySem.W.looks_clsIn X hc) ?_))))))
 rw[hd']
 refine wpAny_pure (a:=some dx) (wpAny_bind (wpAny_pure (wpAny_bind ?_)))
 refine wpAny_nsSet1 (s:={ s with toks:=s.toks+1 }) I.ns fun h' hn2 hs2=>?_
 obtain⟨oD,esD,epD,hoD,hdD,hcD⟩:=hn2.count (PySem.Within.cons name v hw)
 refine wpAny_bind (wpAny_lookBehind hoD (by rw[hdD]; exact pastItsLine_dict (Nat.le_trans hcD (by rw[List.length_cons]; omega))) ?_)
 exact wpAny_pure (h _ ⟨(hs2.2 _ (Ne.symm I.ne)).trans I.obj,hn2,I.ne⟩ hs2)
theorem Dr {R:Result->Shared->Prop} {vs:List Value} {kw:List (Str × Value)} (X:K.In s.heap) (hm:PySem.W.makesIn K C=true)
  (hi:PySem.W.findIn K (.ref C) "__init__" = some (some (.ref f))) (hf:PySem.W.typeIn K (.ref f)=some (.type "function"))
  (h:codeAny (model prog w) (A.under (.builtin "type.__call__" ⟨.ref C::vs,kw⟩)) (.call (.ref f) ⟨.ref (s.heap.objs.size+1)::vs,kw⟩) (PySem.W.InitBack (s.heap.objs.size+1) R)
   { s with heap:=(s.heap.push PySem.W.emptyDict).push (PySem.W.instObj C s.heap.objs.size) }) :
  codeAny (model prog w) A (.call (.ref C) ⟨vs,kw⟩) R s:=by
 obtain⟨hh,g,d,t,os⟩:=s
 exact PySem.W.make_core (PySem.W.makes_of X hm) (PySem.W.looks_findIn X hi) (fun self=>PySem.W.bind_fn X self hf) (.inl rfl) h
end
noncomputable def cA (f:Str) (v:V):List (Str × V)->List (Str × V)
 | []=>[(f,v)]
 | (g,x)::r=>if g=f then (g,v)::r else (g,x)::cA f v r
theorem pX (f g:Str) (v:V):∀ fs:List (Str × V),(cA f v fs).lookup g=if g=f then some v else fs.lookup g
 | []=>by
  show List.lookup g [(f,v)]=_
  by_cases h:g=f
  ·have hb:(g == f)=true:=beq_iff_eq.mpr h
   simp only[List.lookup,hb,if_pos h]
  ·have hb:(g == f)=false:=beq_eq_false_iff_ne.mpr h
   simp only[List.lookup,hb,if_neg h]
 | (k,x)::r=>by
  have ih:=pX f g v r
  rw[show cA f v ((k,x)::r)=(if k=f then (k,v)::r else (k,x)::cA f v r) from rfl]
  by_cases hk:k=f
  ·rw[if_pos hk]
   by_cases h:g=k
   ·have hb:(g == k)=true:=beq_iff_eq.mpr h
    simp only[List.lookup,hb,if_pos (h.trans hk)]
   ·have hb:(g == k)=false:=beq_eq_false_iff_ne.mpr h
    simp only[List.lookup,hb,if_neg (fun e:g=f=>h (e.trans hk.symm))]
  ·rw[if_neg hk]
   by_cases h:g=k
   ·have hb:(g == k)=true:=beq_iff_eq.mpr h
    simp only[List.lookup,hb,if_neg (fun e:g=f=>hk (h.symm.trans e))]
   ·have hb:(g == k)=false:=beq_eq_false_iff_ne.mpr h
    simp only[List.lookup,hb]
    exact ih
theorem pO (f:Str) (v:V):∀ fs:List (Str × V),f∈(cA f v fs).map (·.1)/\∀ g,g∈fs.map (·.1)->g∈(cA f v fs).map (·.1)
 | []=>⟨by simp [cA],fun g h=>by simp at h⟩
 | (k,x)::r=>by
  obtain⟨i1,i2⟩:=pO f v r
  rw[show cA f v ((k,x)::r)=(if k=f then (k,v)::r else (k,x)::cA f v r) from rfl]
  by_cases hk:k=f
  ·rw[if_pos hk]
   subst hk
   exact⟨by simp,fun g h=>by simpa using h⟩
  ·rw[if_neg hk]
   refine⟨?_,fun g h=>?_⟩
   ·rw[List.map_cons]
    exact List.mem_cons_of_mem _ i1
   ·rw[List.map_cons]at h ⊢
    rcases List.mem_cons.mp h with e | e
    ·exact List.mem_cons.mpr (.inl e)
    ·exact List.mem_cons_of_mem _ (i2 g e)
theorem pZ (f:Str) (v:V):∀ fs:List (Str × V),(cA f v fs).length<=fs.length+1
 | []=>by simp [cA]
 | (k,x)::r=>by
  have ih:=pZ f v r
  rw[show cA f v ((k,x)::r)=(if k=f then (k,v)::r else (k,x)::cA f v r) from rfl]
  by_cases hk:k=f
  ·rw[if_pos hk,List.length_cons,List.length_cons]; omega
  ·rw[if_neg hk,List.length_cons,List.length_cons]; omega
theorem lH.some_of {v:V} {o:Option Value} (r:lH (some v) o):∃ u,o=some u/\bU v u:=by
 cases o with
 | none=>exact(show False from r).elim
 | some u=>exact⟨u,rfl,r⟩
theorem lH.none_of {o:Option Value} (r:lH none o):o=none:=by
 cases o with
 | none=>rfl
 | some u=>exact(show False from r).elim
theorem Ce {v:V} {u:Value} (r:bU v u):PySem.W.handedIn u=true:=by
 cases v with
 | non=>cases (show u=Value.none from r); rfl
 | bl b=>cases (show u=Value.bool b from r); rfl
 | int i=>obtain⟨t,e⟩:=(show ∃ t,u=Value.int i t from r); cases e; rfl
 | str x=>obtain⟨t,e⟩:=(show ∃ t,u=Value.str x t from r); cases e; rfl
 | byt b=>obtain⟨t,e⟩:=(show ∃ t,u=Value.bytes b t from r); cases e; rfl
 | flt b=>obtain⟨t,e⟩:=(show ∃ t,u=Value.float b t from r); cases e; rfl
 | ref a=>cases (show u=Value.ref a from r); rfl
 | ty n=>cases (show u=Value.type n from r); rfl
section
variable {P:Program} {w:World} {H H':Hp} {h h':Heap} {a C dx:Addr} {fs fs':List (Str × V)}
theorem qY (hok:HOk P w H h) (e:H a=some (.ins C dx fs)):∃ mA,ObjM h a dx C mA/\(∀ f,lH (fs.lookup f) (mA f))/\PySem.Within mA (fs.map (·.1))/\fs.length<=1000/\H dx=some (.own a):=by
 obtain⟨d,z,ne,ob,mA,n,r,q⟩:=(show dI P w H h a (.ins C dx fs) from hok a _ e)
 exact⟨mA,⟨ob,n,ne⟩,r,q,z,d⟩
end
structure Cls (K:PySem.W.Frag) (C:Addr):Prop where
 pg:PySem.W.plainGet K C Str.empty=true
 hd:PySem.W.hasDictIn K C=true
 po:PySem.W.plainOver K C=true
 sa:PySem.W.findIn K (.ref C) "__setattr__" = some (some (.builtin "object.__setattr__"))
theorem Cls.get {K:PySem.W.Frag} {C:Addr} (c:Cls K C) (f:Str):PySem.W.plainGet K C f=true:=c.pg
noncomputable def cK (K:PySem.W.Frag) (C:Addr) (f:Str):Prop:=PySem.W.findIn K (.ref C) f=some none
theorem cK.taker {K:PySem.W.Frag} {C:Addr} {f:Str} (n:cK K C f):PySem.W.takerIn K C f=some none:=by
 unfold PySem.W.takerIn
 rw[show PySem.W.findIn K (.ref C) f=some none from n]
 rfl
structure Meth (K:PySem.W.Frag) (C:Addr) (m:Str) (f:Addr):Prop where
 at_:PySem.W.findIn K (.ref C) m=some (some (.ref f))
 fn:PySem.W.isFn K (.ref f)=true
 kp:PySem.W.keepIn K (.ref f)=true
section
variable {X:Cx} {pins:List (Addr × Obj)} {σ : St} {H:Hp} {s:Shared} {a C dx:Addr} {fs:List (Str × V)} {f:Str} {v:V} {A:Around} {E:Value->Shared->Prop}
theorem tL {b:Bool} {Q:Value->Shared->Prop} (I:Inv X pins σ H s) (e:H a=some (.ins C dx fs)) (c:Cls X.K C) (n:cK X.K C f) (l:fs.lookup f=some v)
  (h:∀ u s',Inv X pins σ H s'->bU v u->Q u s'):wpAny (model X.prog X.w) A (getAttr (.ref a) f b) Q E s:=by
 obtain⟨mA,O,r,_,_,_⟩:=qY I.hok e
 obtain⟨u,hu,ru⟩:=lH.some_of (v:=v) (o:=mA f) (by rw[<- l]; exact r f)
 exact FY I.kIn O (c.get f) c.hd n hu (Ce ru) (h u _ (I.tok _) ru)
theorem tK {m:Str} {g:Addr} {pl:Sem Bool} {Q:Value × List Value->Shared->Prop} (I:Inv X pins σ H s) (e:H a=some (.ins C dx fs)) (c:Cls X.K C) (k:Meth X.K C m g) (l:fs.lookup m=none)
  (h:Q (.ref g,[.ref a]) s):wpAny (model X.prog X.w) A (getMethod (.ref a) m pl) Q E s:=by
 obtain⟨mA,O,r,_,_,_⟩:=qY I.hok e
 have hn:mA m=none:=lH.none_of (by rw[<- l]; exact r m)
 exact D9 I.kIn O (c.get m) k.at_ k.fn hn h
theorem rN {y:V} {u:Value} {Q:Unit->Shared->Prop} (I:Inv X pins σ H s) (e:H a=some (.ins C dx fs)) (c:Cls X.K C) (n:cK X.K C f) (hl:fs.length<1000) (ry:bU y u)
  (h:∀ s',Inv X pins σ (upd H a (.ins C dx (cA f y fs))) s'->Q () s'):wpAny (model X.prog X.w) A (setAttr (.ref a) f u) Q E s:=by
 obtain⟨mA,O,r,wi,_,ho⟩:=qY I.hok e
 have hz:(fs.map (·.1)).length<=sizeLine:=by rw[List.length_map,sizeLine_eq]; omega
 refine Ew I.kIn O c.sa c.po n.taker c.hd wi hz fun h' O' sb=>h _ ?_
 have hd:∃ o,h'.get? dx=some o:=let ⟨o,_,_,e',_⟩:=O'.ns; ⟨o,e'⟩
 refine I.write (x:=a) (e:=dx) (by rw[e]; exact True.intro) (.inr ho) (fun b q hb z=>(sb.2 b hb).trans z) hd ?_
 refine⟨by rw[aG O.ne]; exact ho,?_,O.ne,O'.obj,_,O'.ns,fun g=>?_,fun g hg=>?_⟩
 ·have:=pZ f y fs; omega
 ·show lH ((cA f y fs).lookup g) (if g=f then some u else mA g)
  rw[pX]
  by_cases q:g=f
  ·rw[if_pos q,if_pos q]; exact ry
  ·rw[if_neg q,if_neg q]; exact r g
 ·by_cases q:g=f
  ·rw[q]; exact(pO f y fs).1
  ·refine(pO f y fs).2 g (wi g fun z=>hg ?_)
   show (if g=f then some u else mA g)=none
   rw[if_neg q]; exact z
theorem Inv.made (I:Inv X pins σ H s):Inv X pins σ (upd (upd H s.heap.objs.size (.own (s.heap.objs.size+1))) (s.heap.objs.size+1) (.ins C s.heap.objs.size []))
  { s with heap:=(s.heap.push PySem.W.emptyDict).push (PySem.W.instObj C s.heap.objs.size) }:=by
 have e1:(s.heap.push PySem.W.emptyDict).get? s.heap.objs.size=some PySem.W.emptyDict:=Heap.get?_push_size s.heap rfl
 have e2:((s.heap.push PySem.W.emptyDict).push (PySem.W.instObj C s.heap.objs.size)).get? (s.heap.objs.size+1)=some (PySem.W.instObj C s.heap.objs.size):=by
  have:=Heap.get?_push_size (s.heap.push PySem.W.emptyDict) (o:=PySem.W.instObj C s.heap.objs.size) rfl
  rwa [Heap.size_push]at this
 have e3:(s.heap.push PySem.W.emptyDict).Ns s.heap.objs.size (fun _=>none):=⟨PySem.W.emptyDict,#[],_,e1,rfl,(fun e he=>absurd he (by simp)),fun _=>rfl⟩
 have I1:=I.laid (a:=s.heap.objs.size) (o:=.own (s.heap.objs.size+1)) (h':=s.heap.push PySem.W.emptyDict) (t':=s.toks) (fun b u q=>Heap.get?_push_of_some _ q) (Nat.le_refl _) ⟨_,e1⟩
 refine I1.laid (a:=s.heap.objs.size+1) (o:=.ins C s.heap.objs.size []) (t':=s.toks) (fun b u q=>Heap.get?_push_of_some _ q) (Nat.le_of_eq (Heap.size_push _ _)) ?_
 have ne:s.heap.objs.size≠s.heap.objs.size+1:=Nat.ne_of_lt (Nat.lt_succ_self _)
 refine⟨by rw[aG ne,aE],Nat.zero_le _,ne,e2,fun _=>none,(Heap.Ns1.of_empty e3).at fun o q=>Heap.get?_push_of_some _ q,fun _=>True.intro,fun y hy=>absurd rfl hy⟩
theorem Fh {prog:Program} {w:World} {env:Env} {e:Expr} {f:Str} {pos:Pos} {s:Shared} {Q:Value->Shared->Prop} (hb:attributeBase e f env (eval e env)=eval e env)
  (h:wpAny (model prog w) A (eval e env) (fun o s₁=>wpAny (model prog w) A (getAttr o f true) Q E s₁) E s):wpAny (model prog w) A (eval (.Attribute e f pos) env) Q E s:=
 Attribute_any_ h (by rw[arm_eval_Attribute,hb])
end
noncomputable def tFld (K:PySem.W.Frag) (ta:TE) (f:Str):TE:=fun σ H Q=>ta σ H fun x H1=>∃ a C dx fs v,x = .ref a/\H1 a=some (.ins C dx fs)/\Cls K C/\cK K C f/\fs.lookup f=some v/\Q v H1
noncomputable def sFld (K:PySem.W.Frag) (ta tv:TE) (f:Str):TS:=fun D σ H=>tv σ H fun y H1=>ta σ H1 fun x H2=>∃ a C dx fs,x = .ref a/\H2 a=some (.ins C dx fs)/\Cls K C/\cK K C f/\fs.length<1000/\
 D.nx σ (upd H2 a (.ins C dx (cA f y fs)))
noncomputable def Gp (X:Cx) (op:Operator) (rd:V->V->Hp->VK->Prop):Prop:=
 ∀ (pins:List (Addr × Obj)) (s:Shared) (σ : St) (H:Hp) (x y:V) (u v:Value) (Q:VK),Inv X pins σ H s->bU x u->bU y v->rd x y H Q->wpAny (model X.prog X.w) X.A (inplaceOp op u v) (EP X pins σ Q) X.xe s
noncomputable def E1 (K:PySem.W.Frag) (ta tv:TE) (rd:V->V->Hp->VK->Prop) (f:Str):TS:=fun D σ H=>ta σ H fun x H1=>∃ a C dx fs v,x = .ref a/\H1 a=some (.ins C dx fs)/\Cls K C/\cK K C f/\fs.lookup f=some v/\
 tv σ H1 fun y H2=>rd v y H2 fun z H3=>∃ dx' fs',H3 a=some (.ins C dx' fs')/\fs'.length<1000/\D.nx σ (upd H3 a (.ins C dx' (cA f z fs')))
section
variable {X:Cx} {o e value:Expr} {f:Str} {pos pos' tpos:Pos} {ta tv:TE}
theorem dD (he:PE X e ta) (hb:attributeBase e f X.env (eval e X.env)=eval e X.env):PE X (.Attribute e f pos) (tFld X.K ta f):=by
 intro pins s σ H Q I h
 refine Fh hb (thn (he pins s σ H _ I h) fun u s1 zQq=>?_)
 obtain⟨x,H1,I1,rx,a,C,dx,fs,v,ex,ea,c,n,l,q⟩:=zQq
 subst ex
 obtain rfl:u=Value.ref a:=rx
 exact tL I1 ea c n l fun u' s2 I2 ru=>⟨v,H1,I2,ru,q⟩
theorem cT (ha:PE X o ta) (hv:PE X value tv) (hs:swapsWith value (some (.Attribute o f pos')) pos.line X.env=pure false):PS X (.Assign [.Attribute o f pos'] value pos) (sFld X.K ta tv f):=by
 intro pins s σ H D I h
 refine plainObj_wpAny_Assign_Attribute (thn (hv pins s σ H _ I h) fun u s1 ⟨y,H1,I1,ry,q⟩=>thn (ha pins s1 σ H1 _ I1 q) fun ov s2 zQq=>?_) hs
 obtain⟨x,H2,I2,rx,a,C,dx,fs,ex,ea,c,n,l,q2⟩:=zQq
 subst ex
 obtain rfl:ov=Value.ref a:=rx
 exact rN I2 ea c n l ry fun s3 I3=>⟨σ,_,I3,q2⟩
theorem lQ {op:Operator} {rd:V->V->Hp->VK->Prop} (ha:PE X o ta) (hv:PE X value tv) (hop:Gp X op rd):PS X (.AugAssign (.Attribute o f tpos) op value pos) (E1 X.K ta tv rd f):=by
 intro pins s σ H D I h
 refine wpAny_AugAssign_AttributeAny (thn (ha pins s σ H _ I h) fun ov s1 zQq=>?_)
 obtain⟨x,H1,I1,rx,a,C,dx,fs,v,ex,ea,c,n,l,q⟩:=zQq
 subst ex
 obtain rfl:ov=Value.ref a:=rx
 refine tL I1 ea c n l fun u s2 I2 ru=>thn (hv pins s2 σ H1 _ I2 q) fun w3 s3 ⟨y,H2,I3,ry,q3⟩=>thn (hop pins s3 σ H2 v y u w3 _ I3 ru ry q3) fun w4 s4 zQq=>?_
 obtain⟨z,H3,I4,rz,dx',fs',ea',l',q4⟩:=zQq
 exact rN I4 ea' c n l' rz fun s5 I5=>⟨σ,_,I5,q4⟩
noncomputable def rAdd:V->V->Hp->VK->Prop:=fun x y H Q=>∃ i j,x = .int i/\y = .int j/\Q (.int (i+j)) H
noncomputable def rSub:V->V->Hp->VK->Prop:=fun x y H Q=>∃ i j,x = .int i/\y = .int j/\Q (.int (i - j)) H
theorem A7:Gp X .Add rAdd:=by
 rintro pins s σ H x y u v Q I rx ry ⟨i,j,rfl,rfl,q⟩
 obtain⟨t,rfl⟩:=(show ∃ t,u=Value.int i t from rx)
 obtain⟨t',rfl⟩:=(show ∃ t',v=Value.int j t' from ry)
 exact PyProof.Rows.iadd_int ⟨.int (i+j),H,I.tok _,⟨_,rfl⟩,q⟩
theorem Ge:Gp X .Sub rSub:=by
 rintro pins s σ H x y u v Q I rx ry ⟨i,j,rfl,rfl,q⟩
 obtain⟨t,rfl⟩:=(show ∃ t,u=Value.int i t from rx)
 obtain⟨t',rfl⟩:=(show ∃ t',v=Value.int j t' from ry)
 exact PyProof.Rows.isub_int ⟨.int (i - j),H,I.tok _,⟨_,rfl⟩,q⟩
end
section
variable {X:Cx} {pins:List (Addr × Obj)} {σ : St} {H:Hp} {s:Shared} {A:Around} {E:Value->Shared->Prop} {Q:Value->Shared->Prop} {c:Value} {b:Bool}
inductive TyOf (K:PySem.W.Frag) (H:Hp):V->Value->Prop where
 | non:TyOf K H .non (.type "NoneType")
 | bl (x:Bool):TyOf K H (.bl x) (.type "bool")
 | int (i:Int):TyOf K H (.int i) (.type "int")
 | str (x:Str):TyOf K H (.str x) (.type "str")
 | flt (x:UInt64):TyOf K H (.flt x) (.type "float")
 | lst {a:Addr} {xs:List V} (e:H a=some (.lst xs)):TyOf K H (.ref a) (.type "list")
 | frz {a:Addr} {o:Obj} {xs:List V} (e:H a=some (.frz o (.lst xs))):TyOf K H (.ref a) (.type "list")
 | tup {a:Addr} {xs:List V} (e:H a=some (.tup xs)):TyOf K H (.ref a) (.type "tuple")
 | dK {a:Addr} {kvs:List (Key × V)} (e:H a=some (.dK kvs)):TyOf K H (.ref a) (.type "dict")
 | dT {a:Addr} {kvs:List (List Key × V)} (e:H a=some (.dT kvs)):TyOf K H (.ref a) (.type "dict")
 | ins {a C dx:Addr} {fs:List (Str × V)} (e:H a=some (.ins C dx fs)) (cl:Cls K C) (ha:PySem.W.findIn K (.ref C) "__class__" = some (some (.builtin "object.__class__")))
   (hn:PySem.W.specialIn K (.builtin "object.__class__") "__get__" = some (some (.builtin "getset_descriptor.__get__"))) (htk:PySem.W.takesIn K (.builtin "object.__class__")=some true)
   (hm:PySem.W.mroIn K C (.type "object")=some true):TyOf K H (.ref a) (.ref C)
theorem CZ {x:V} {u t:Value} (I:Inv X pins σ H s) (rx:bU x u) (ty:TyOf X.K H x t) (e:PySem.W.kitOne X.K t c=some b) (h:∀ tk,Q (.bool b) { s with toks:=tk }) :
  wpAny (model X.prog X.w) A (call (.builtin "isinstance") [u,c]) Q E s:=by
 cases ty with
 | non=>cases (show u=Value.none from rx); exact PySem.W.kia_one PySem.W.kitx_none I.kIn True.intro e (fun z=>nomatch z) h
 | bl y=>cases (show u=Value.bool y from rx); exact PySem.W.kia_one PySem.W.kitx_bool I.kIn True.intro e (fun z=>nomatch z) h
 | int i=>obtain⟨t,q⟩:=(show ∃ t,u=Value.int i t from rx); cases q; exact PySem.W.kia_one PySem.W.kitx_int I.kIn True.intro e (fun z=>nomatch z) h
 | str y=>obtain⟨t,q⟩:=(show ∃ t,u=Value.str y t from rx); cases q; exact PySem.W.kia_one PySem.W.kitx_str I.kIn True.intro e (fun z=>nomatch z) h
 | flt y=>obtain⟨t,q⟩:=(show ∃ t,u=Value.float y t from rx); cases q; exact PySem.W.kia_one PySem.W.kitx_float I.kIn True.intro e (fun z=>nomatch z) h
 | @lst a xs ea=>
  cases (show u=Value.ref a from rx)
  obtain⟨_,_,n,_,h1⟩:=(show dI X.prog X.w H s.heap a (.lst xs) from I.hok a _ ea)
  exact PySem.W.kia_one PySem.W.kitx_list I.kIn ⟨_,h1,rfl⟩ e (fun z=>nomatch z) h
 | @frz a ob xs ea=>
  cases (show u=Value.ref a from rx)
  obtain⟨_,_,_,n,_,h1⟩:=(show dI X.prog X.w H s.heap a (.frz ob (.lst xs)) from I.hok a _ ea)
  exact PySem.W.kia_one PySem.W.kitx_list I.kIn ⟨_,h1,rfl⟩ e (fun z=>nomatch z) h
 | @tup a xs ea=>
  cases (show u=Value.ref a from rx)
  obtain⟨_,_,_,p⟩:=(show dI X.prog X.w H s.heap a (.tup xs) from I.hok a _ ea)
  obtain⟨o,h1,h2,_⟩:=p
  exact PySem.W.kia_one PySem.W.kitx_tuple I.kIn ⟨o,h1,h2⟩ e (fun z=>nomatch z) h
 | @dK a kvs ea=>
  cases (show u=Value.ref a from rx)
  obtain⟨_,_,vs,_,p⟩:=(show dI X.prog X.w H s.heap a (.dK kvs) from I.hok a _ ea)
  obtain⟨o,es,ep,h1,h2,_⟩:=p
  exact PySem.W.kia_one PySem.W.kitx_dict I.kIn ⟨o,h1,h2.1⟩ e (fun z=>nomatch z) h
 | @dT a kvs ea=>
  cases (show u=Value.ref a from rx)
  obtain⟨_,_,xs,_,o,es,ep,h1,h2,_⟩:=(show dI X.prog X.w H s.heap a (.dT kvs) from I.hok a _ ea)
  exact PySem.W.kia_one PySem.W.kitx_dict I.kIn ⟨o,h1,h2.1⟩ e (fun z=>nomatch z) h
 | @ins a C dx fs ea cl ha hn htk hm=>
  cases (show u=Value.ref a from rx)
  obtain⟨mA,O,_⟩:=qY I.hok ea
  obtain⟨od,J,_⟩:=O.look
  exact PySem.W.kia_one (PySem.W.kitx_own (cl.get _) cl.hd ha hn htk hm) I.kIn J e (fun z=>nomatch z) h
end
end L2
namespace L2
open PySem PySem.Spec PyProof.Rows
structure Room (k:Nat) (A:Around):Prop where
 hd:A.handled=none
 dp:A.depth+3 * k+5<recursionLimit
 un:A.units+16 * k+200<cLine
theorem Room.mono {j k:Nat} {A:Around} (r:Room k A) (h:j<=k):Room j A:=⟨r.hd,by have:=r.dp; omega,by have:=r.un; omega⟩
theorem Room.deeper {k:Nat} {A:Around} (r:Room (k+1) A) (env:Env):Room k (A.deeper env):=
 ⟨r.hd,by have:=r.dp; show A.depth+1+3 * k+5<_; omega,by have:=r.un; show A.units+3+16 * k+200<_; omega⟩
theorem A1 {A:Around} {C:Addr} {us:List Value} {kw:List (Str × Value)}:(A.under (.builtin "type.__call__" ⟨.ref C::us,kw⟩)).depth=A.depth+1:=by
 first | rfl | simp [Around.under,Code.weight,Code.isCreation,Code.isGuard,Code.isCaller,Code.frames,Code.isFrame,guardIds]
theorem A0 {A:Around} {C:Addr} {us:List Value} {kw:List (Str × Value)}:(A.under (.builtin "type.__call__" ⟨.ref C::us,kw⟩)).units=A.units+1:=by
 first | rfl | simp [Around.under,Code.cUnits,Code.frames,Code.isFrame]
theorem Room.make {k:Nat} {A:Around} (r:Room (k+1) A) (C:Addr) (us:List Value) (kw:List (Str × Value)):Room k (A.under (.builtin "type.__call__" ⟨.ref C::us,kw⟩)):=
 ⟨r.hd,by have:=r.dp; rw[A1]; omega,by have:=r.un; rw[A0]; omega⟩
theorem Room.depth {k:Nat} {A:Around} (r:Room k A):A.depth<recursionLimit:=by have:=r.dp; omega
theorem Room.units {k:Nat} {A:Around} (r:Room k A):A.units+64<cLine:=by have:=r.un; omega
noncomputable def eQ:TA:=fun _ H Q=>Q [] H
noncomputable def dX (ta:TE) (tr:TA):TA:=fun σ H Q=>ta σ H fun x H1=>tr σ H1 fun xs H2=>Q (x::xs) H2
section
variable {X:Cx} {e:Expr} {es:List Expr} {te:TE} {t:TA} {pos:Pos}
theorem aB:PA X [] eQ:=fun _ _ _ _ H Q I h=>Calls.spliced_nil ⟨[],H,I,.nil,h⟩
theorem fS (ha:PE X e te) (hr:PA X es t) (hs:starEach (e::es) X.env=(false,eval e X.env)::starEach es X.env:=by rfl):PA X (e::es) (dX te t):=by
 intro pos pins s σ H Q I h
 rw[hs]
 show wpAny _ _ (spliced ((false,eval e X.env)::backTo pos (starEach es X.env))) _ _ s
 refine Calls.spliced_cons (thn (ha pins s σ H _ I h) fun u s1 zQq=>?_)
 obtain⟨x,H1,I1,r1,q1⟩:=zQq
 exact thn (hr pos pins s1 σ H1 _ I1 q1) fun us s2 ⟨xs,H2,I2,r2,q2⟩=>⟨x::xs,H2,I2,.cons r1 r2,q2⟩
noncomputable def tTup (t:TA):TE:=fun σ H Q=>t σ H fun xs H1=>xs.length<=sizeLine/\∀ p,H1 p=none->Q (.ref p) (upd H1 p (.tup xs))
noncomputable def tLst (t:TA):TE:=fun σ H Q=>t σ H fun xs H1=>xs.length<=sizeLine/\∀ p,H1 p=none->Q (.ref p) (upd H1 p (.lst xs))
theorem cG {x1} (h:PA X es t):PE X (.Tuple es x1 pos) (tTup t):=by
 intro pins s σ H Q I hq
 refine wpAny_Tuple_spliced (thn (h pos pins s σ H _ I hq) fun us s1 ⟨xs,H1,I1,r,z,q⟩=>⟨by rw[<- r.length]; exact z,?_⟩)
 have hf:H1 s1.heap.objs.size=none:=I1.hok.fresh (Nat.le_refl _)
 refine⟨.ref s1.heap.objs.size,upd H1 s1.heap.objs.size (.tup xs),I1.laid (t':=s1.toks) (fun b u e=>Heap.get?_push_of_some _ e) (Nat.le_refl _) ?_,rfl,q _ hf⟩
 exact⟨z,us,r,⟨_,Heap.get?_push_size _ rfl,rfl,_,rfl⟩⟩
theorem iS (h:PA X es t):PE X (.List es pos) (tLst t):=by
 intro pins s σ H Q I hq
 refine wpAny_List_spliced (thn (h pos pins s σ H _ I hq) fun us s1 ⟨xs,H1,I1,r,z,q⟩=>⟨by rw[<- r.length]; exact z,?_⟩)
 have hf:H1 s1.heap.objs.size=none:=I1.hok.fresh (Nat.le_refl _)
 refine⟨.ref s1.heap.objs.size,upd H1 s1.heap.objs.size (.lst xs),I1.laid (t':=s1.toks) (fun b u e=>Heap.get?_push_of_some _ e) (Nat.le_refl _) ?_,rfl,q _ hf⟩
 exact⟨z,us,0,r,Heap.get?_push_size _ rfl⟩
end
noncomputable abbrev Sp:=List V->Hp->VK->XK->Prop
noncomputable abbrev CXT:=List Env->Hp->Shared->XK->Value->Shared->Prop
structure Env0 (P:Program) (w:World) (K:PySem.W.Frag) (mg:Str->Option Value) (base:Heap) (A:Around) (outer:List Env) (s:Shared) (H:Hp):Prop where
 frames:A.frames=some outer
 mod:Mod K mg base
 bs:∀ b o,base.get? b=some o->s.heap.get? b=some o/\H b=none
 bsz:base.objs.size<=s.heap.objs.size
 funs:s.heap.FunFrames base outer
 frf:∀ b∈frs outer,H b=none
 hok:HOk P w H s.heap
 bare:AllBare s.gens
noncomputable def CE (outer:List Env) (P:Program) (w:World) (H:Hp) (s:Shared) (Q:VK) (u:Value) (s':Shared):Prop:=
 ∃ v H',s'.os=s.os/\AllBare s'.gens/\Un (frs outer) [] H H' s.heap s'.heap/\HOk P w H' s'.heap/\bU v u/\Q v H'
noncomputable def CR (CX:CXT) (outer:List Env) (P:Program) (w:World) (H:Hp) (s:Shared) (Q:VK) (E:XK) (r:Result) (s':Shared):Prop:=
 match r with
 | .ok (.ret u)=>CE outer P w H s Q u s'
 | .ok _=>False
 | .error e=>CX outer H s E e s'
structure FnOk (P:Program) (w:World) (K:PySem.W.Frag) (mg:Str->Option Value) (base:Heap) (CX:CXT) (k:Nat) (f:Addr) (fd:FuncData) (ps:List Str) (sp:Sp):Prop where
 len:∀ vs H Q E,sp vs H Q E->vs.length=ps.length
 run:∀ (A:Around) (outer:List Env) (s:Shared) (H:Hp) (args:Args) (us:List Value) (vs:List V) (Q:VK) (E:XK),Room k A->Env0 P w K mg base A outer s H->BindsTo s fd args (ps.zip us)->bQ vs us->sp vs H Q E->
  codeAny (model P w) A (.call (.ref f) args) (CR CX outer P w H s Q E) s
theorem Env0.make {P:Program} {w:World} {K:PySem.W.Frag} {mg:Str->Option Value} {base:Heap} {A:Around} {outer:List Env} {s:Shared} {H:Hp} (e:Env0 P w K mg base A outer s H) (C:Addr) (us:List Value) (kw:List (Str × Value)) :
  Env0 P w K mg base (A.under (.builtin "type.__call__" ⟨.ref C::us,kw⟩)) outer s H:=⟨by first | exact e.frames | (simpa [Around.under,Code.envs,Code.isFrame,pushEnvs] using e.frames),e.mod,e.bs,e.bsz,e.funs,e.frf,e.hok,e.bare⟩
section
variable {X:Cx} {pins:List (Addr × Obj)} {σ : St} {H:Hp} {s s':Shared}
theorem Inv.env0 (I:Inv X pins σ H s):Env0 X.prog X.w X.K X.mg X.base X.A X.stack s H:=
 ⟨I.ok.frames,I.ok.mod,I.bs,Nat.le_trans I.ok.bsz I.sz,I.stack,I.stkFree,I.hok,I.bare⟩
theorem Inv.after {Q:VK} {u:Value} (I:Inv X pins σ H s) (h:CE X.stack X.prog X.w H s Q u s'):EP X pins σ Q u s':=by
 obtain⟨v,H',os,bare,un,hok,r,q⟩:=h
 obtain⟨hh,g,d,t,os'⟩:=s'
 obtain rfl:os'=s.os:=os
 exact⟨v,H',I.call (h':=hh) (g':=g) (d':=d) (t':=t) (ch:=[]) un hok bare (fun b z=>absurd z (by simp)),r,q⟩
end
noncomputable def C6 (sp:Sp) (dvs:List V) (E:XK) (t:TA):TE:=fun σ H Q=>t σ H fun vs H1=>sp (vs++dvs) H1 Q E
noncomputable def BK (C:Addr) (m:Str) (sp:Sp) (dvs:List V) (E:XK) (ta:TE) (t:TA):TE:=fun σ H Q=>ta σ H fun x H1=>∃ a dx fs,x = .ref a/\H1 a=some (.ins C dx fs)/\fs.lookup m=none/\
 t σ H1 fun vs H2=>sp (x::(vs++dvs)) H2 Q E
noncomputable def BL (C:Addr) (sp:Sp) (dvs:List V) (E:XK) (t:TA):TE:=fun σ H Q=>t σ H fun vs H1=>∀ x dx,H1 x=none->H1 dx=none->dx≠x->
 sp (.ref x::(vs++dvs)) (upd (upd H1 dx (.own x)) x (.ins C dx [])) (fun v H2=>v = .non/\Q (.ref x) H2) E
noncomputable def jB (K:PySem.W.Frag) (fd:FuncData) (ps:List Str) (ds:List Value):Prop:=
 ∀ (s:Shared) (us:List Value),K.In s.heap->(us++ds).length=ps.length->BindsTo s fd ⟨us,[]⟩ (ps.zip (us++ds))
theorem jB.all {K:PySem.W.Frag} {fd:FuncData} {ps:List Str} (h:∀ us:List Value,us.length=ps.length->bindArgs fd ⟨us,[]⟩=pure (ps.zip us)):jB K fd ps []:=fun s us _ hl=>by
 rw[List.append_nil]at hl ⊢
 exact .of_eq (h us hl)
noncomputable def eU (CX:CXT) (X:Cx) (E:XK):Prop:=∀ (pins:List (Addr × Obj)) (σ : St) (H:Hp) (s:Shared) (e:Value) (s':Shared),Inv X pins σ H s->CX X.stack H s E e s'->X.xe e s'
section
variable {X:Cx} {CX:CXT} {k:Nat} {f C:Addr} {fd:FuncData} {ps:List Str} {sp:Sp} {dvs:List V} {ds:List Value} {E:XK} {x m:Str} {p pos apos:Pos} {e o:Expr} {es:List Expr} {ta:TE} {t:TA}
theorem AY {pins:List (Addr × Obj)} {σ : St} {H:Hp} {s:Shared} {Q:VK} {us:List Value} {vs:List V} (F:FnOk X.prog X.w X.K X.mg X.base CX k f fd ps sp) (hr:Room k X.A) (hb:jB X.K fd ps ds) (hd:bQ dvs ds) (hx:eU CX X E)
  (I:Inv X pins σ H s) (r:bQ vs us) (h:sp (vs++dvs) H Q E):wpAny (model X.prog X.w) X.A (call (.ref f) us) (EP X pins σ Q) X.xe s:=by
 have r2:bQ (vs++dvs) (us++ds):=r.append hd
 have hl:(us++ds).length=ps.length:=by rw[<- r2.length]; exact F.len _ _ _ _ h
 refine wpAny_call (codeAny_mono (F.run X.A X.stack s H ⟨us,[]⟩ (us++ds) (vs++dvs) Q E hr I.env0 (hb s us I.kIn hl) r2 h) fun r s' hq=>?_)
 cases r with
 | error e=>exact hx pins σ H s e s' I hq
 | ok fl=>
  cases fl with
  | ret u=>exact I.after hq
  | next=>exact False.elim hq
  | brk=>exact False.elim hq
  | cont=>exact False.elim hq
theorem FC (F:FnOk X.prog X.w X.K X.mg X.base CX k f fd ps sp) (hr:Room k X.A) (hg:Gl X x) (hm:X.mg x=some (.ref f)) (hk:PySem.W.keepIn X.K (.ref f)=true) (hb:jB X.K fd ps ds) (hd:bQ dvs ds) (hx:eU CX X E)
  (ha:PA X (e::es) t) (hdb:(x == ("__debug__" : Str))=false:=by decide) (he:starEach (e::es) X.env=(false,eval e X.env)::starEach es X.env:=by rfl) (hpl:(backTo pos (starEach es X.env)).any (·.1)=false:=by rfl) :
  PE X (.Call (.Name x p) (e::es) [] pos) (C6 sp dvs E t):=by
 intro pins s σ H Q I h
 refine wpAny_Call_Name_kw (nZ I hg hm ?_ hdb)
 refine PySem.W.callWith_K (h₀:=X.base) I.ok.mod.kin hk (thn (ha pos pins s σ H _ I h) fun us s1 ⟨vs,H1,I1,r,q⟩=>⟨I1.kIn,?_⟩) he hpl
 exact AY F hr hb hd hx I1 r q
theorem FA {pl:Sem Bool} (he:PE X o ta) (c:Cls X.K C) (hm:Meth X.K C m f) (F:FnOk X.prog X.w X.K X.mg X.base CX k f fd ps sp) (hr:Room k X.A) (hb:jB X.K fd ps ds) (hd:bQ dvs ds) (hx:eU CX X E) (ha:PA X (e::es) t)
  (hst:starEach (e::es) X.env=(false,eval e X.env)::starEach es X.env:=by rfl) (hpl:(backTo pos (starEach es X.env)).any (·.1)=false:=by rfl)
  (ht:eval (.Call (.Attribute o m apos) (e::es) [] pos) X.env=(do
   let ov <- eval o X.env
   standAt apos.atName
   let (f,first) <- holding [ov] (getMethod ov m pl)
   callWith pos f first (backTo pos (starEach (e::es) X.env)) (backToKw pos (keywordEach [] X.env))):=by rfl) :
  PE X (.Call (.Attribute o m apos) (e::es) [] pos) (BK C m sp dvs E ta t):=by
 intro pins s σ H Q I h
 refine PySem.W.methodCall_KW (pl:=pl) (thn (he pins s σ H _ I h) fun u s1 zQq=>?_) ht
 obtain⟨x,H1,I1,rx,a,dx,fs,ex,ea,l,q⟩:=zQq
 subst ex
 obtain rfl:u=Value.ref a:=rx
 refine tK I1 ea c hm l ?_
 refine PySem.W.callWith_K (first:=[.ref a]) (h₀:=X.base) I.ok.mod.kin hm.kp (thn (ha pos pins s1 σ H1 _ I1 q) fun us s2 ⟨vs,H2,I2,r,q2⟩=>⟨I2.kIn,?_⟩) hst hpl
 exact AY (us:=.ref a::us) (vs:=.ref a::vs) F hr hb hd hx I2 (.cons rfl r) q2
theorem DZ {pl:Sem Bool} (he:PE X o ta) (c:Cls X.K C) (hm:Meth X.K C m f) (F:FnOk X.prog X.w X.K X.mg X.base CX k f fd ps sp) (hr:Room k X.A) (hb:jB X.K fd ps ds) (hd:bQ dvs ds) (hx:eU CX X E)
  (ht:eval (.Call (.Attribute o m apos) [] [] pos) X.env=(do
   let ov <- eval o X.env
   standAt apos.atName
   let (f,first) <- holding [ov] (getMethod ov m pl)
   callWith pos f first (backTo pos (starEach [] X.env)) (backToKw pos (keywordEach [] X.env))):=by rfl) :
  PE X (.Call (.Attribute o m apos) [] [] pos) (BK C m sp dvs E ta eQ):=by
 intro pins s σ H Q I h
 refine PySem.W.methodCall_KW (pl:=pl) (thn (he pins s σ H _ I h) fun u s1 zQq=>?_) ht
 obtain⟨x,H1,I1,rx,a,dx,fs,ex,ea,l,q⟩:=zQq
 subst ex
 obtain rfl:u=Value.ref a:=rx
 refine tK I1 ea c hm l ?_
 exact PySem.W.callWith_K0 (first:=[.ref a]) I1.kIn hm.kp (AY (us:=[.ref a]) (vs:=[.ref a]) F hr hb hd hx I1 (.cons rfl .nil) q)
structure Mk (K:PySem.W.Frag) (C f:Addr):Prop where
 makes:PySem.W.makesIn K C=true
 init:PySem.W.findIn K (.ref C) "__init__" = some (some (.ref f))
 fn:PySem.W.isFn K (.ref f)=true
 kp:PySem.W.keepIn K (.ref C)=true
theorem yU {pins:List (Addr × Obj)} {σ : St} {H:Hp} {s:Shared} {Q:VK} {us:List Value} {vs:List V} (M:Mk X.K C f) (F:FnOk X.prog X.w X.K X.mg X.base CX k f fd ps sp) (hr:Room (k+1) X.A) (hb:jB X.K fd ps ds) (hd:bQ dvs ds)
  (hx:eU CX X E) (I:Inv X pins σ H s) (r:bQ vs us)
  (h:∀ x dx,H x=none->H dx=none->dx≠x->sp (.ref x::(vs++dvs)) (upd (upd H dx (.own x)) x (.ins C dx [])) (fun v H2=>v = .non/\Q (.ref x) H2) E) :
  wpAny (model X.prog X.w) X.A (call (.ref C) us) (EP X pins σ Q) X.xe s:=by
 have hq:=h (s.heap.objs.size+1) s.heap.objs.size (I.hok.fresh (Nat.le_succ _)) (I.hok.fresh (Nat.le_refl _)) (Nat.ne_of_lt (Nat.lt_succ_self _))
 have I2:=Inv.made (C:=C) I
 have r2:bQ (V.ref (s.heap.objs.size+1)::(vs++dvs)) (Value.ref (s.heap.objs.size+1)::(us++ds)):=.cons rfl (r.append hd)
 have hl:(Value.ref (s.heap.objs.size+1)::us++ds).length=ps.length:=by
  have e:=r2.length
  rw[F.len _ _ _ _ hq]at e
  exact e.symm
 refine wpAny_call (Dr (f:=f) I.kIn M.makes M.init (beq_iff_eq.mp M.fn) (codeAny_mono (F.run _ X.stack _ _ ⟨Value.ref (s.heap.objs.size+1)::us,[]⟩ (Value.ref (s.heap.objs.size+1)::(us++ds)) _ _ E (hr.make C us [])
  (I2.env0.make C us []) (hb _ (Value.ref (s.heap.objs.size+1)::us) I2.kIn hl) r2 hq) fun r s' hq'=>?_))
 cases r with
 | error e=>exact hx pins σ _ _ e s' I2 hq'
 | ok fl=>
  cases fl with
  | ret u=>
   obtain⟨v,H',I3,rv,ev,q3⟩:=I2.after hq'
   subst ev
   exact⟨rv,⟨V.ref (s.heap.objs.size+1),H',I3,rfl,q3⟩⟩
  | next=>exact False.elim hq'
  | brk=>exact False.elim hq'
  | cont=>exact False.elim hq'
theorem FB (M:Mk X.K C f) (F:FnOk X.prog X.w X.K X.mg X.base CX k f fd ps sp) (hr:Room (k+1) X.A) (hg:Gl X x) (hm:X.mg x=some (.ref C)) (hb:jB X.K fd ps ds) (hd:bQ dvs ds) (hx:eU CX X E)
  (ha:PA X (e::es) t) (hdb:(x == ("__debug__" : Str))=false:=by decide) (he:starEach (e::es) X.env=(false,eval e X.env)::starEach es X.env:=by rfl) (hpl:(backTo pos (starEach es X.env)).any (·.1)=false:=by rfl) :
  PE X (.Call (.Name x p) (e::es) [] pos) (BL C sp dvs E t):=by
 intro pins s σ H Q I h
 refine wpAny_Call_Name_kw (nZ I hg hm ?_ hdb)
 refine PySem.W.callWith_K (h₀:=X.base) I.ok.mod.kin M.kp (thn (ha pos pins s σ H _ I h) fun us s1 ⟨vs,H1,I1,r,q⟩=>⟨I1.kIn,?_⟩) he hpl
 exact yU M F hr hb hd hx I1 r q
theorem Da (M:Mk X.K C f) (F:FnOk X.prog X.w X.K X.mg X.base CX k f fd ps sp) (hr:Room (k+1) X.A) (hg:Gl X x) (hm:X.mg x=some (.ref C)) (hb:jB X.K fd ps ds) (hd:bQ dvs ds) (hx:eU CX X E)
  (hdb:(x == ("__debug__" : Str))=false:=by decide):PE X (.Call (.Name x p) [] [] pos) (BL C sp dvs E eQ):=by
 intro pins s σ H Q I h
 refine wpAny_Call_Name_kw (nZ I hg hm ?_ hdb)
 exact PySem.W.callWith_K0 I.kIn M.kp (yU (us:=[]) M F hr hb hd hx I .nil h)
end
section
variable {X:Cx} {CX:CXT} {k:Nat} {f C:Addr} {fd:FuncData} {ps ks:List Str} {sp:Sp} {E:XK} {x m:Str} {p pos apos kpos:Pos} {e o:Expr} {es:List Expr} {kws:List Keyword} {te ta:TE} {t tk:TA} {nm:Option Str}
variable {g:List Value->List Value->List Value} {gV:List V->List V->List V}
end
structure FnScope (N P:List Str) (sc:Scope):Prop where
 kind:sc.kind = .function
 co:sc.isCoroutine=false
 gen:sc.isGenerator=false
 nd:N.Nodup
 pre:N.take P.length=P
 par:∀ x∈P,sc.names.lookup x=some .local\/sc.names.lookup x=some .cell
 nofree:∀ y∈sc.names,y.2 ≠ .free
theorem v4 {kindOf:Str->Option NameKind} {x:Str}:∀ {binds:List (Str × Value)} {m:Str->Option Value},(∀ v,(x,v) ∉ binds)->bindL kindOf binds m x=m x
 | [],_,_=>rfl
 | (n,v)::r,m,h=>by
  unfold bindL
  rw[v4 fun w hw=>h w (List.mem_cons_of_mem _ hw)]
  split
  ·have:x≠n:=by rintro rfl; exact h v List.mem_cons_self
   simp [this]
  ·rfl
theorem v8 {kindOf:Str->Option NameKind} {x:Str}:∀ {binds:List (Str × Value)} {m:Str->Option Value},(∀ v,(x,v) ∉ binds)->bindC kindOf binds m x=m x
 | [],_,_=>rfl
 | (n,v)::r,m,h=>by
  unfold bindC
  rw[v8 fun w hw=>h w (List.mem_cons_of_mem _ hw)]
  split
  ·rfl
  ·have:x≠n:=by rintro rfl; exact h v List.mem_cons_self
   simp [this]
theorem v5 {kindOf:Str->Option NameKind} {x:Str} {v:Value}:∀ {P:List Str} {vs:List Value} {i:Nat} {m:Str->Option Value},P.Nodup->P[i]? = some x->vs[i]? = some v->kindOf x=some .local->
  bindL kindOf (P.zip vs) m x=some v
 | [],_,_,_,_,h,_,_=>by simp at h
 | _::_,[],_,_,_,_,h,_=>by simp at h
 | p::P,w::vs,0,m,nd,h1,h2,hk=>by
  simp at h1 h2; subst h1; subst h2
  show bindL kindOf ((p,w)::P.zip vs) m p=_
  unfold bindL
  rw[v4 fun v hv=>(List.nodup_cons.mp nd).1 (List.of_mem_zip hv).1,if_pos hk]
  simp
 | p::P,w::vs,i+1,m,nd,h1,h2,hk=>by
  show bindL kindOf ((p,w)::P.zip vs) m x=_
  unfold bindL
  exact v5 (i:=i) (List.nodup_cons.mp nd).2 (by simpa using h1) (by simpa using h2) hk
theorem v9 {kindOf:Str->Option NameKind} {x:Str} {v:Value}:∀ {P:List Str} {vs:List Value} {i:Nat} {m:Str->Option Value},P.Nodup->P[i]? = some x->vs[i]? = some v->kindOf x≠some .local->
  bindC kindOf (P.zip vs) m x=some v
 | [],_,_,_,_,h,_,_=>by simp at h
 | _::_,[],_,_,_,_,h,_=>by simp at h
 | p::P,w::vs,0,m,nd,h1,h2,hk=>by
  simp at h1 h2; subst h1; subst h2
  show bindC kindOf ((p,w)::P.zip vs) m p=_
  unfold bindC
  rw[v8 fun v hv=>(List.nodup_cons.mp nd).1 (List.of_mem_zip hv).1,if_neg hk]
  simp
 | p::P,w::vs,i+1,m,nd,h1,h2,hk=>by
  show bindC kindOf ((p,w)::P.zip vs) m x=_
  unfold bindC
  exact v9 (i:=i) (List.nodup_cons.mp nd).2 (by simpa using h1) (by simpa using h2) hk
noncomputable def pU (N:List Str) (vs:List V):St:=vs.map some++List.replicate (N.length - vs.length) none
noncomputable def BB (CX:CXT) (P:Program) (w:World) (K:PySem.W.Frag) (mg:Str->Option Value) (base:Heap) (N:List Str) (qual:Str) (scope:Scope) (f:Addr) (cd:Value) (A:Around) (outer:List Env) (s:Shared) (H:Hp) (E:XK):Cx where
 prog:=P
 w:=w
 K:=K
 mg:=mg
 base:=base
 A:=A.deeper (envOfC qual scope s.heap.objs.size f cd)
 N:=N
 s₀:=s
 H₀:=H
 env:=envOfC qual scope s.heap.objs.size f cd
 outer:=outer
 stack:=envOfC qual scope s.heap.objs.size f cd::outer
 ex:=[]
 calm:=true
 fn:=fun _=>true
 pn:=[]
 xe:=fun e s'=>wpAny (model P w) (A.deeper (envOfC qual scope s.heap.objs.size f cd)) (leaving (envOfC qual scope s.heap.objs.size f cd) e) (fun _ s''=>CX outer H s E e s'') (fun e' s''=>CX outer H s E e' s'') s'
theorem AC {sc:Scope} {n:Nat} {x:Str} (h:sc.names.lookup x=some .cell):∃ c,(cellsFrom n sc.names []).lookup x=some c:=by
 have q:=PySem.W.cellsFrom_some sc.names n [] (.inl h)
 exact Option.isSome_iff_exists.mp q
theorem Ca {CX:CXT} {P:Program} {w:World} {K:PySem.W.Frag} {mg:Str->Option Value} {base:Heap} {N ps:List Str} {qual:Str} {scope:Scope} {f:Addr} {cd:Value} {A:Around} {outer:List Env} {s s1:Shared} {H:Hp} {E:XK} {us:List Value} {vs:List V}
  (S:FnScope N ps scope) (hd:A.handled=none) (e0:Env0 P w K mg base A outer s H) (hl:vs.length=ps.length) (r:bQ vs us)
  (x:InCallC s s.heap.objs.size (bindL (envOfC qual scope s.heap.objs.size f cd).kindOf (ps.zip us) fun _=>none) (cellsFrom (s.heap.objs.size+1) scope.names []) (bindC (envOfC qual scope s.heap.objs.size f cd).kindOf (ps.zip us) fun _=>none) s1) :
  Inv (BB CX P w K mg base N qual scope f cd A outer s H E) [] (pU N vs) H s1:=by
 have hpl:ps.length<=N.length:=by have:=congrArg List.length S.pre; rw[List.length_take]at this; omega
 obtain⟨h1,tk,rfl,hk⟩:=x.done
 have noA:∀ b:Addr,b ∉ (BB CX P w K mg base N qual scope f cd A outer s H E).ex:=fun b z=>absurd (show b∈([]:List Addr) from z) (by simp)
 refine⟨⟨e0.mod,S.kind,rfl,rfl,Nat.le_refl _,fun y z c h1 h2=>?_,fun y hy=>?_,fun y c _ h=>?_,fun _=>hd,Around.frames_deeper e0.frames,.inr ⟨rfl,rfl⟩,fun b z=>absurd z (noA b),e0.bs,e0.bsz,fun b _ _=>noA b,fun b z=>absurd z (noA b),e0.funs,e0.frf⟩,
  rfl,e0.bare,Un.kept hk,⟨_,x.toInCall.ns,fun i y v h1 h2 h3=>?_⟩,fun y c h=>⟨_,x.cell y c h⟩,e0.hok.fresh (Nat.le_refl _),fun y c h=>?_,fun p hp=>absurd (show p∈([]:List (Addr × Obj)) from hp) (by simp),e0.hok.kept hk,?_⟩
 ·exact name_of_addr x.apart (PySem.mem_of_lookup h1) (PySem.mem_of_lookup h2)
 ·have hy:scope.names.lookup y=some .cell\/scope.names.lookup y=some .free:=hy
  rcases hy with hy | hy
  ·exact AC hy
  ·exact absurd rfl (S.nofree _ (PySem.mem_of_lookup hy))
 ·exact Nat.le_of_lt (x.above y c (PySem.mem_of_lookup h))
 ·have hi:i<vs.length:=by
   unfold pU at h2
   by_cases hi:i<vs.length
   ·exact hi
   ·rw[List.getElem?_append_right (by simpa using hi)]at h2
    rw[List.getElem?_replicate]at h2
    split at h2 <;> cases h2
  have ha:vs[i]? = some v:=by
   unfold pU at h2
   rw[List.getElem?_append_left (by simpa using hi),List.getElem?_map]at h2
   cases e:vs[i]? with
   | none=>rw[e]at h2; cases h2
   | some a=>rw[e]at h2; cases h2; rfl
  obtain⟨u,hu,rv⟩:=r.get ha
  have hp:ps[i]? = some y:=by
   rw[<- S.pre,List.getElem?_take_of_lt (by omega)]; exact h1
  have ndP:ps.Nodup:=by rw[<- S.pre]; exact S.nd.sublist (List.take_sublist _ _)
  refine⟨u,rv,?_⟩
  rcases S.par y (List.mem_of_getElem? hp) with k | k
  ·exact .inl ⟨k,v5 ndP hp hu k⟩
  ·obtain⟨c,e⟩:=AC (n:=s.heap.objs.size+1) k
   refine .inr ⟨.inl k,c,e,?_⟩
   have q:=x.cell y c e
   rw[v9 ndP hp hu (by show scope.names.lookup y≠_; rw[k]; decide)]at q
   exact q
 ·exact e0.hok.fresh (Nat.le_of_lt (x.above y c (PySem.mem_of_lookup h)))
 ·unfold pU
  show _=N.length
  rw[List.length_append,List.length_map,List.length_replicate]
  omega
theorem fn_of {CX:CXT} {P:Program} {w:World} {K:PySem.W.Frag} {mg:Str->Option Value} {base:Heap} {k:Nat} {f:Addr} {name qual:Str} {params:Arguments} {body:List Stmt} {scope:Scope} {dV kV doc pm cdv ct oc:Value} {an od:Option Addr}
  {osl:Array (Option Value)} {N ps:List Str} {sp:Sp} (lk:K.lookup f=some ⟨oc,od,.func (PySem.W.fnOf name qual params body scope dV kV doc pm an cdv ct),osl⟩) (hcd:PySem.W.codeIn K cdv qual=true) (S:FnScope N ps scope)
  (len:∀ vs H Q E,sp vs H Q E->vs.length=ps.length)
  (hbody:∀ (A:Around) (outer:List Env) (s:Shared) (H:Hp) (vs:List V) (Q:VK) (E:XK),Room k (A.deeper (envOfC qual scope s.heap.objs.size f cdv))->sp vs H Q E->
   ∃ t,PSs (BB CX P w K mg base N qual scope f cdv A outer s H E) body t/\t { nx:=fun _ H'=>Q .non H',rt:=Q } (pU N vs) H) :
  FnOk P w K mg base CX (k+1) f (PySem.W.fnOf name qual params body scope dV kV doc pm an cdv ct) ps sp:=by
 refine⟨len,fun A outer s H args us vs Q E hr e0 hb r hsp=>?_⟩
 have hl:=len _ _ _ _ hsp
 have KX:K.In s.heap:=e0.mod.kin.keeps fun b o e=>(e0.bs b o e).1
 have lim:s.heap.NoLimit:=e0.mod.nolimit.keeps fun b o e=>(e0.bs b o e).1
 have hkind:∀ y∈ps.zip us,scope.names.lookup y.1=some .local\/(scope.names.lookup y.1=some .cell/\((cellsFrom (s.heap.objs.size+1) scope.names []).lookup y.1).isSome=true):=fun⟨n,v⟩ hy=>by
  rcases S.par n (List.of_mem_zip hy).1 with q | q
  ·exact .inl q
  ·exact .inr ⟨q,PySem.W.cellsFrom_some _ _ _ (.inl q)⟩
 refine codeAny_call_function hr.depth (KX _ _ lk) rfl S.co S.gen rfl (PySem.W.codeRec_of KX hcd) (hb _ _ _ _ ?_)
 refine wpAny_newFunctionEnv_cells S.kind hkind fun env he s1 x=>?_
 subst he
 refine⟨lim.keeps x.toInCall.keep,codeAny_func ?_⟩
 obtain⟨t,ht,hq⟩:=hbody A outer s H vs Q E (hr.deeper _) hsp
 have I:Inv (BB CX P w K mg base N qual scope f cdv A outer s H E) [] (pU N vs) H s1:=Ca S hr.hd e0 hl r x
 refine wpAny_mono (ht [] s1 (pU N vs) H _ I hq) (fun fl s' hs=>?_) fun e s' hs=>hs
 have fin:∀ {σ':St} {H':Hp} {v:V} {u:Value},Inv (BB CX P w K mg base N qual scope f cdv A outer s H E) [] σ' H' s'->bU v u->Q v H'->CE outer P w H s Q u s':=
  fun {σ' H' v u} J rv q=>⟨v,H',J.os,J.bare,J.base,J.hok,rv,q⟩
 cases fl with
 | ret u=>
  obtain⟨v,σ',H',J,rv,q⟩:=hs
  exact fin J rv q
 | next=>
  obtain⟨σ',H',J,q⟩:=hs
  exact fin (v:=V.non) (u:=Value.none) J rfl q
 | brk=>
  obtain⟨_,_,_,q⟩:=hs
  exact False.elim q
 | cont=>
  obtain⟨_,_,_,q⟩:=hs
  exact False.elim q
end L2
namespace L2
open PySem PySem.Spec PyProof.Rows
section
variable {X:Cx} {x:Str} {p pos:Pos} {e:Expr} {es:List Expr} {t:TA} {id T:String} {r:List V->Hp->VK->Prop}
noncomputable def tCB (r:List V->Hp->VK->Prop) (t:TA):TE:=fun σ H Q=>t σ H fun vs H1=>r vs H1 Q
theorem bC (hc:eX X (.builtin id) r) (hg:Gl X x) (hm:X.mg x=none) (hv:bootBuiltins x=some (.builtin id)) (ha:PA X (e::es) t) (hn:x ≠ "__name__":=by decide) (hdb:(x == ("__debug__" : Str))=false:=by decide)
  (he:starEach (e::es) X.env=(false,eval e X.env)::starEach es X.env:=by rfl) (hpl:(backTo pos (starEach es X.env)).any (·.1)=false:=by rfl):PE X (.Call (.Name x p) (e::es) [] pos) (tCB r t):=by
 intro pins s σ H Q I h
 refine wpAny_Call_Name_kw (mX I hg hm hv ?_ hn hdb)
 exact PyProof.Rows.callWith_builtin1 (thn (ha pos pins s σ H _ I h) fun us s1 ⟨vs,H1,I1,r1,q1⟩=>hc pins s1 σ H1 vs us Q I1 r1 q1) he hpl
theorem pI (hc:eX X (.type T) r) (hg:Gl X x) (hm:X.mg x=none) (hv:bootBuiltins x=some (.type T)) (ha:PA X (e::es) t) (hn:x ≠ "__name__":=by decide) (hdb:(x == ("__debug__" : Str))=false:=by decide)
  (he:starEach (e::es) X.env=(false,eval e X.env)::starEach es X.env:=by rfl) (hpl:(backTo pos (starEach es X.env)).any (·.1)=false:=by rfl):PE X (.Call (.Name x p) (e::es) [] pos) (tCB r t):=by
 intro pins s σ H Q I h
 refine wpAny_Call_Name_kw (mX I hg hm hv ?_ hn hdb)
 exact PyProof.Rows.callWith_type1 (thn (ha pos pins s σ H _ I h) fun us s1 ⟨vs,H1,I1,r1,q1⟩=>hc pins s1 σ H1 vs us Q I1 r1 q1) he hpl
end
end L2
namespace HT
open PySem PyProof.Rows
section
open PySem.SeqAt
open PySem.AutoSeq1 (wpAny_loadPart')
open PySem.MeetsSeq PySem.MeetsSeq2 PySem.MeetsSeq3
end
section
variable {prog:Program} {w:World} {A:Around} {E:Value->Shared->Prop} {s:Shared}
theorem Ff {t b:Addr} {vs ws:List Value} {Q:Value->Shared->Prop} (ht:IsTup s.heap t vs.toArray) (hb:IsTup s.heap b ws.toArray) (hv:vs≠[])
  (h1:ws=[]->Q (.ref t) s) (h2:ws≠[]->Q (.ref s.heap.objs.size) { s with heap:=s.heap.push { cls:=.type "tuple",data:=.seq (vs++ws).toArray } })
  (hsz:vs.length+ws.length<=sizeLine):wpAny (model prog w) A (binaryOp .Add (.ref t) (.ref b)) Q E s:=by
 obtain⟨⟨cls,dd,data,sl⟩,ho,hc,n,hd⟩:=id ht
 obtain⟨⟨cls2,dd2,data2,sl2⟩,ho2,hc2,n2,hd2⟩:=id hb
 simp only at hc hd hc2 hd2
 subst hc hd hc2 hd2
 have e:vs.toArray++ws.toArray=(vs++ws).toArray:=by simp
 by_cases hw:ws=[]
 ·exact concat_meets ⟨_,ho,rfl⟩ ⟨_,ho2,rfl⟩ noFill_tuple_add seq_tuple_add PySem.F.slot_tuple_add PySem.F.entry_tuple_add (PySem.F.args_tuple_add_2 _ _)
   (tuple_addW1 t b vs.toArray ws.toArray n n2 dd dd2 sl sl2 (by simpa using hv) (by simp [hw])) ⟨ho,ho2,h1 hw⟩
 ·refine concat_meets ⟨_,ho,rfl⟩ ⟨_,ho2,rfl⟩ noFill_tuple_add seq_tuple_add PySem.F.slot_tuple_add PySem.F.entry_tuple_add (PySem.F.args_tuple_add_2 _ _)
   (tuple_addW2 t b vs.toArray ws.toArray n n2 dd dd2 sl sl2 (by simpa using hv) (by simpa using hw) (by rw[List.size_toArray,List.size_toArray]; exact hsz)) ⟨ho,ho2,?_⟩
  rw[e]
  exact h2 hw
noncomputable def sIx (n d:Nat):Option Int->Nat
 | none=>d
 | some v=>if v<0 then (v+(n:Int)).toNat else min v.toNat n
theorem nP (n d:Nat):sIx n d none=d:=rfl
theorem iF (n d k:Nat):sIx n d (some (k:Int))=min k n:=by
 show (if (k:Int)<0 then ((k:Int)+(n:Int)).toNat else min (k:Int).toNat n)=min k n
 rw[if_neg (by omega),Int.toNat_natCast]
theorem F9 (n d:Nat) (hd:d<=n) (o:Option Int):sIx n d o<=n:=by
 cases o with
 | none=>exact hd
 | some v=>
  show (if v<0 then (v+(n:Int)).toNat else min v.toNat n)<=n
  by_cases hv:v<0
  ·rw[if_pos hv]; omega
  ·rw[if_neg hv]; exact Nat.min_le_right _ _
theorem Bq (v:Int) (n d:Nat):(if v<0 then max (v+(n:Int)) 0 else min v (n:Int))=((sIx n d (some v):Nat):Int):=by
 show (if v<0 then max (v+(n:Int)) 0 else min v (n:Int))=(((if v<0 then (v+(n:Int)).toNat else min v.toNat n):Nat):Int)
 by_cases hv:v<0
 ·simp only[if_pos hv]; omega
 ·simp only[if_neg hv]; omega
theorem BG (lo hi:Option Int) (n:Nat):Builtin.Slice.sliceAdjust lo hi 1 (n:Int)=(((sIx n 0 lo:Nat):Int),((sIx n n hi:Nat):Int)):=by
 have h1:¬ ((1:Int)<0):=by omega
 unfold Builtin.Slice.sliceAdjust
 simp only[h1,if_false]
 refine Prod.ext ?_ ?_
 ·cases lo with
  | none=>rfl
  | some v=>exact Bq v n 0
 ·cases hi with
  | none=>rfl
  | some v=>exact Bq v n n
theorem Ac (i j:Nat):Builtin.Slice.slicePlaces (i:Int) (j:Int) 1=j - i:=by
 unfold Builtin.Slice.slicePlaces
 have h1:(1:Int) > 0:=by omega
 simp only[h1,if_true,Int.ediv_one]
 split <;> omega
theorem rL {v:Value} {o:Option Int} {Q:Option Int->Shared->Prop} (p:IsPart v o) (h:Q o s):wpAny (model prog w) A (Builtin.Slice.slicePartIndex v) Q E s:=by
 cases p with
 | none=>exact slicePart_none h
 | int i t=>exact slicePart_int h
theorem iW {sl:Addr} {vl vu:Value} {lo hi:Option Int} {n:Nat} {Q:Int × Int × Nat->Shared->Prop} (hs:s.heap.IsSliceOf sl vl vu .none) (pl:IsPart vl lo) (pu:IsPart vu hi)
  (h:Q (((sIx n 0 lo:Nat):Int),1,sIx n n hi - sIx n 0 lo) s):wpAny (model prog w) A (Builtin.Slice.sliceApplied (.ref sl) (pure (n:Int))) Q E s:=by
 obtain⟨os,hos,hcs,hds⟩:=id hs
 unfold Builtin.Slice.sliceApplied Builtin.Slice.sliceFields
 refine wpAny_bind (wpAny_bind (wpAny_field hos hds (x:=vl) rfl (wpAny_bind (wpAny_field hos hds (x:=vu) rfl (wpAny_bind (wpAny_field hos hds (x:=.none) rfl (wpAny_pure ?_)))))))
 refine wpAny_bind (slicePart_none ?_)
 show wpAny _ _ (if ((1:Int) == 0)=true then _ else _) _ _ s
 rw[if_neg (by decide)]
 refine wpAny_bind (rL pl (wpAny_bind (rL pu (wpAny_bind (wpAny_pure ?_)))))
 show wpAny _ _ (match Builtin.Slice.sliceAdjust lo hi 1 (n:Int) with | (lo,hi)=>pure (lo,(1:Int),Builtin.Slice.slicePlaces lo hi 1)) _ _ s
 rw[BG lo hi n]
 show wpAny _ _ (pure (((sIx n 0 lo:Nat):Int),(1:Int),Builtin.Slice.slicePlaces ((sIx n 0 lo:Nat):Int) ((sIx n n hi:Nat):Int) 1)) _ _ s
 rw[Ac]
 exact wpAny_pure h
theorem DV (xs:Array Value) (i k:Nat):((List.range k).filterMap fun(m:Nat)=>xs[((i:Int)+(m:Int) * 1).toNat]?).toArray=((xs.toList.drop i).take k).toArray:=by
 have e:(fun(m:Nat)=>xs[((i:Int)+(m:Int) * 1).toNat]?)=fun m=>xs[i+m]?:=by
  funext m
  have:((i:Int)+(m:Int) * 1).toNat=i+m:=by omega
  rw[this]
 rw[e]
 have:=pick_run xs i k
 rw[List.filterMap_map]at this
 have e2:((fun x=>xs[x]?) ∘ fun x=>i+x)=fun m=>xs[i+m]?:=rfl
 rw[e2]at this
 rw[this]
theorem n5 {t sl:Addr} {items:Array Value} {vl vu:Value} {lo hi:Option Int} {Q:Value->Shared->Prop} (ht:IsTup s.heap t items) (hs:s.heap.IsSliceOf sl vl vu .none) (pl:IsPart vl lo) (pu:IsPart vu hi)
  (hw:¬ (sIx items.size 0 lo=0/\sIx items.size items.size hi=items.size))
  (h:Q (.ref s.heap.objs.size) { s with heap:=s.heap.push { cls:=.type "tuple",data:=.seq ((items.toList.drop (sIx items.size 0 lo)).take (sIx items.size items.size hi - sIx items.size 0 lo)).toArray } })
  (hsz:items.size<=sizeLine):wpAny (model prog w) A (getItem (.ref t) (.ref sl)) Q E s:=by
 have htake:sizeOk (.seq ((items.toList.drop (sIx items.size 0 lo)).take (sIx items.size items.size hi - sIx items.size 0 lo)).toArray):=by
  show ((items.toList.drop (sIx items.size 0 lo)).take (sIx items.size items.size hi - sIx items.size 0 lo)).toArray.size<=sizeLine
  rw[List.size_toArray,List.length_take,List.length_drop,Array.length_toList]
  omega
 have hj:sIx items.size items.size hi<=items.size:=F9 _ _ (Nat.le_refl _) hi
 obtain⟨os,hos,hcs,hds⟩:=id hs
 have hTs:s.TypeIs (.ref sl) "slice":=⟨os,hos,hcs⟩
 unfold getItem
 try with_reducible refine wpAny_holding ?_
 first | refine wpAny_bind (wpAny_pure ?_) | skip
 refine wpAny_bind (wpAny_sequenceKey ht.typeIs (by decide) ?_)
 refine wpAny_bind (wpAny_callSpecial?_slot (name:=Str.ofString "__getitem__") ht.typeIs PyProof.Rows.slot_tuple_getitem
  (wpAny_call_entry PyProof.Rows.slot_tuple_getitem ht.typeIs entry_tuple_getitem ?_ (args_tuple_getitem _ _)))
 show wpAny _ _ (Builtin.Tuple.tupleItemsOf (.ref t) >>= _) _ _ s
 refine wpAny_bind (tupleItemsOf_ ht ?_)
 refine wpAny_bind (wpAny_typeOf hTs ?_)
 rw[if_pos (by decide)]
 refine wpAny_bind (iW hs pl pu ?_)
 have hno:¬ ((((sIx items.size 0 lo:Nat):Int) == 0 && (1:Int) == 1 && (sIx items.size items.size hi - sIx items.size 0 lo) == items.size)=true):=by
  intro q
  rw[Bool.and_eq_true,Bool.and_eq_true]at q
  have q1:((sIx items.size 0 lo:Nat):Int)=0:=eq_of_beq q.1.1
  have q2:sIx items.size items.size hi - sIx items.size 0 lo=items.size:=eq_of_beq q.2
  exact hw ⟨by omega,by omega⟩
 show wpAny _ _ (if (((sIx items.size 0 lo:Nat):Int) == 0 && (1:Int) == 1 && (sIx items.size items.size hi - sIx items.size 0 lo) == items.size)=true then _ else _) _ _ s
 rw[if_neg hno,DV]
 first
  | exact wpAny_bind (m:=Builtin.Tuple.tupleExact _) (wpAny_newObj_type (wpAny_pure ⟨_,rfl,wpAny_pure h⟩) htake)
  | exact wpAny_bind (m:=Builtin.Tuple.tupleExact _) (wpAny_newObj_type (wpAny_bind (wpAny_pure (wpAny_pure ⟨_,rfl,wpAny_pure h⟩))) htake)
  | exact wpAny_bind (wpAny_bind (m:=Builtin.Tuple.tupleExact _) (wpAny_newObj_type (wpAny_pure (wpAny_pure ⟨_,rfl,wpAny_pure h⟩)) htake))
  | exact wpAny_bind (wpAny_bind (m:=Builtin.Tuple.tupleExact _) (wpAny_newObj_type (wpAny_pure ⟨_,rfl,wpAny_pure h⟩) htake))
end
end HT
namespace L2
open PySem PySem.Spec PyProof.Rows
noncomputable abbrev TO:=St->Hp->(Option Int->Hp->Prop)->Prop
noncomputable def PO (X:Cx) (e:Option Expr) (t:TO):Prop:=
 ∀ (pins:List (Addr × Obj)) (s:Shared) (σ : St) (H:Hp) (Q:Option Int->Hp->Prop),Inv X pins σ H s->t σ H Q->
  wpAny (model X.prog X.w) X.A (evalPart e X.env) (fun u s'=>∃ o H',Inv X pins σ H' s'/\IsPart u o/\Q o H') X.xe s
noncomputable def wF:TO:=fun _ H Q=>Q none H
noncomputable def Fm (t:TE):TO:=fun σ H Q=>t σ H fun x H1=>∃ i,x = .int i/\Q (some i) H1
section
variable {X:Cx} {e:Expr} {te:TE} {lo hi:Option Expr} {tl th:TO} {pos p2:Pos}
theorem iG:PO X none wF:=by
 intro pins s σ H Q I h
 rw[evalPart_none]
 exact wpAny_pure ⟨none,H,I,.none,h⟩
theorem fR (h:PE X e te):PO X (some e) (Fm te):=by
 intro pins s σ H Q I hw
 rw[evalPart_some]
 refine thn (h pins s σ H _ I hw) fun u s1 zQq=>?_
 obtain⟨x,H1,I1,r1,q1⟩:=zQq
 obtain⟨i,rfl,q⟩:=q1
 obtain⟨t,rfl⟩:=r1
 exact⟨some i,H1,I1,.int i t,q⟩
noncomputable def SlR (X:Cx) (r:V->Option Int->Option Int->Hp->VK->Prop):Prop:=
 ∀ (pins:List (Addr × Obj)) (s:Shared) (σ : St) (H:Hp) (x:V) (v vl vu:Value) (lo hi:Option Int) (sl:Addr) (Q:VK),Inv X pins σ H s->bU x v->s.heap.IsSliceOf sl vl vu .none->IsPart vl lo->IsPart vu hi->r x lo hi H Q->
  ∃ T id,typeLookup (.type T) "__getitem__" = pure (some (.builtin id))/\s.TypeIs v T/\wpAny (model X.prog X.w) X.A (getItem v (.ref sl)) (EP X pins σ Q) X.xe s
noncomputable def tSl (r:V->Option Int->Option Int->Hp->VK->Prop) (te:TE) (tl th:TO):TE:=fun σ H Q=>te σ H fun x H1=>tl σ H1 fun l H2=>th σ H2 fun u H3=>r x l u H3 Q
theorem e9 {r:V->Option Int->Option Int->Hp->VK->Prop} (hr:SlR X r) (he:PE X e te) (hl:PO X lo tl) (hu:PO X hi th):PE X (.Subscript e (.Slice lo hi none p2) pos) (tSl r te tl th):=by
 intro pins s σ H Q I h
 refine Subscript_ (thn (he pins s σ H _ I h) fun v s1 zQq=>?_)
 obtain⟨x,H1,I1,r1,q1⟩:=zQq
 refine wpAny_Slice (thn (hl pins s1 σ H1 _ I1 q1) fun vl s2 ⟨l,H2,I2,pl,q2⟩=>thn (hu pins s2 σ H2 _ I2 q2) fun vu s3 zQq=>?_)
 obtain⟨u,H3,I3,pu,q3⟩:=zQq
 rw[evalPart_none]
 refine wpAny_pure ?_
 have I4:Inv X pins σ H3 { s3 with heap:=s3.heap.push { cls:=.type "slice",data:=.fields #[vl,vu,.none] } }:=I3.kept (t':=s3.toks) fun b ob q=>Heap.get?_push_of_some _ q
 obtain⟨T,id,hT,ht,hg⟩:=hr pins { s3 with heap:=s3.heap.push { cls:=.type "slice",data:=.fields #[vl,vu,.none] } } σ H3 x v vl vu l u s3.heap.objs.size Q I4 r1 (Heap.IsSliceOf.new ..) pl pu q3
 show wpAny (model X.prog X.w) X.A (subscriptTail e (.Slice lo hi none p2) v (.ref s3.heap.objs.size)) (EP X pins σ Q) X.xe { s3 with heap:=s3.heap.push { cls:=.type "slice",data:=.fields #[vl,vu,.none] } }
 exact tail_any (ops:=[.ref s3.heap.objs.size,v]) ht hT hg (by with_unfolding_all rfl)
noncomputable def fN (xs:List V) (lo hi:Option Int):List V:=(xs.drop (HT.sIx xs.length 0 lo)).take (HT.sIx xs.length xs.length hi - HT.sIx xs.length 0 lo)
theorem qB (xs:List V) (lo hi:Option Int):(fN xs lo hi).length<=xs.length:=by
 unfold fN
 rw[List.length_take,List.length_drop]
 omega
noncomputable def rSlT (K:PySem.W.Frag):V->Option Int->Option Int->Hp->VK->Prop:=fun x lo hi H Q=>∃ a xs,x = .ref a/\SqT K H a xs/\
 ¬ (HT.sIx xs.length 0 lo=0/\HT.sIx xs.length xs.length hi=xs.length)/\∀ p,H p=none->Q (.ref p) (upd H p (.tup (fN xs lo hi)))
theorem F6:SlR X (rSlT X.K):=by
 intro pins s σ H x v vl vu lo hi sl Q I rx hs pl pu h
 obtain⟨a,xs,rfl,hx,hw,q⟩:=h
 cases rx
 obtain⟨its,r,ht,hz⟩:=I.tuple hx
 have hlen:its.toArray.size=xs.length:=by rw[List.size_toArray]; exact r.length.symm
 refine⟨"tuple",_,PyProof.Rows.slot_tuple_getitem.lookup,ht.typeIs,?_⟩
 refine HT.n5 ht hs pl pu (by rw[hlen]; exact hw) ?_ (by rw[hlen]; exact hz)
 rw[hlen]
 refine⟨.ref s.heap.objs.size,_,I.laid (t':=s.toks) (o:=.tup (fN xs lo hi)) (fun b ob q=>Heap.get?_push_of_some _ q) (Nat.le_refl _) ?_,rfl,q _ (I.hok.fresh (Nat.le_refl _))⟩
 exact⟨Nat.le_trans (qB xs lo hi) hz,_,(r.drop (HT.sIx xs.length 0 lo)).take (HT.sIx xs.length xs.length hi - HT.sIx xs.length 0 lo),IsTup.new _ _⟩
noncomputable def rCatT (K:PySem.W.Frag):R2:=fun x y H Q=>∃ a b xs ys,x = .ref a/\y = .ref b/\SqT K H a xs/\SqT K H b ys/\xs≠[]/\xs.length+ys.length<=sizeLine/\
 (ys=[]->Q (.ref a) H)/\(ys≠[]->∀ p,H p=none->Q (.ref p) (upd H p (.tup (xs++ys))))
theorem bQ.nil_iff {xs:List V} {us:List Value} (r:bQ xs us):us=[] ↔ xs=[]:=by
 cases r with
 | nil=>simp
 | cons _ _=>simp
theorem FE:OpR X (binaryOp .Add) (rCatT X.K):=by
 intro pins s σ H x y v u Q I rx ry h
 obtain⟨a,b,xs,ys,rfl,rfl,ha,hb,hx,hz,q1,q2⟩:=h
 cases rx
 cases ry
 obtain⟨its,r1,p1,_⟩:=I.tuple ha
 obtain⟨its2,r2,p2,_⟩:=I.tuple hb
 refine HT.Ff p1 p2 (fun z=>hx (r1.nil_iff.mp z)) (fun z=>⟨.ref a,H,I,rfl,q1 (r2.nil_iff.mp z)⟩) (fun z=>?_) (by rw[<- r1.length,<- r2.length]; exact hz)
 refine⟨.ref s.heap.objs.size,_,I.laid (t':=s.toks) (o:=.tup (xs++ys)) (fun b ob q=>Heap.get?_push_of_some _ q) (Nat.le_refl _) ?_,rfl,q2 (fun w=>z (r2.nil_iff.mpr w)) _ (I.hok.fresh (Nat.le_refl _))⟩
 exact⟨by rw[List.length_append]; exact hz,_,r1.append r2,IsTup.new _ _⟩
end
end L2
namespace L2
open PySem PySem.Spec PyProof.Rows
noncomputable def ixN (n:Nat) (i:Int):Option Nat:=if 0<=i then (if i<n then some i.toNat else none) else if -(n:Int)<=i then some (i+n).toNat else none
noncomputable def atI {α : Type} (xs:List α) (i:Int):Option α:=(ixN xs.length i).bind fun j=>xs[j]?
theorem FW {n:Nat} {i:Int} {j:Nat} (h:ixN n i=some j):seqIndex? i n=some j/\j<n/\-(n:Int)<=i/\i<n:=by
 unfold ixN at h
 by_cases h0:0<=i
 ·rw[if_pos h0]at h
  by_cases h1:i<n
  ·rw[if_pos h1]at h
   have e:i.toNat=j:=Option.some.inj h
   exact⟨by rw[seqIndex_of h0 h1,e],by omega,by omega,h1⟩
  ·rw[if_neg h1]at h; cases h
 ·rw[if_neg h0]at h
  by_cases h1:-(n:Int)<=i
  ·rw[if_pos h1]at h
   have e:(i+n).toNat=j:=Option.some.inj h
   exact⟨by rw[seqIndex_neg (by omega) h1,e],by omega,h1,by omega⟩
  ·rw[if_neg h1]at h; cases h
theorem Bt {α : Type} {xs:List α} {i:Int} {v:α} (h:atI xs i=some v):∃ j,seqIndex? i xs.length=some j/\xs[j]? = some v/\j<xs.length/\-(xs.length:Int)<=i/\i<xs.length:=by
 unfold atI at h
 cases e:ixN xs.length i with
 | none=>rw[e]at h; cases h
 | some j=>
  rw[e]at h
  obtain⟨h1,h2,h3,h4⟩:=FW e
  exact⟨j,h1,h,h2,h3,h4⟩
theorem bP {α : Type} {xs:List α} {j:Nat} {v:α} (h:xs[j]? = some v):atI xs (j:Int)=some v:=by
 have hj:j<xs.length:=(List.getElem?_eq_some_iff.mp h).1
 have e:ixN xs.length (j:Int)=some j:=by
  unfold ixN
  rw[if_pos (by omega),if_pos (by omega)]; simp
 unfold atI; rw[e]; exact h
theorem Eg {α : Type} (xs:List α) (v:α):atI (xs++[v]) (-1)=some v:=by
 have hl:(xs++[v]).length=xs.length+1:=by simp
 have e:ixN (xs++[v]).length (-1)=some xs.length:=by
  unfold ixN
  rw[hl,if_neg (by decide),if_pos (by omega)]
  congr 1
  omega
 unfold atI
 rw[e]
 show (xs++[v])[xs.length]? = some v
 simp
noncomputable def Fj (b:Expr):Prop:=∀ o i,subscripted b false o i=operate [o,i] (getItem o i)
noncomputable def IxR (X:Cx) (r:R2):Prop:=
 ∀ (value slice:Expr) (pins:List (Addr × Obj)) (s:Shared) (σ : St) (H:Hp) (x y:V) (v u:Value) (Q:VK),Inv X pins σ H s->bU x v->bU y u->r x y H Q->
  subscripted slice false v u=operate [v,u] (getItem v u)->wpAny (model X.prog X.w) X.A (subscriptTail value slice v u) (EP X pins σ Q) X.xe s
noncomputable def MtR (X:Cx) (id:String) (r:V->List V->Hp->VK->Prop):Prop:=
 ∀ (pins:List (Addr × Obj)) (s:Shared) (σ : St) (H:Hp) (x:V) (xs:List V) (v:Value) (us:List Value) (Q:VK),Inv X pins σ H s->bU x v->bQ xs us->r x xs H Q->
  wpAny (model X.prog X.w) X.A (call (.builtin id) (v::us)) (EP X pins σ Q) X.xe s
section
variable {X:Cx} {a b:Expr} {ta tb:TE} {pos:Pos}
theorem c8 {r:R2} (hr:IxR X r) (ha:PE X a ta) (hb:PE X b tb) (hs:Fj b):PE X (.Subscript a b pos) (tOp r ta tb):=by
 intro pins s σ H Q I h
 exact Subscript_ (Gn ha hb I h fun v u s2 x y H2 I2 rx ry q=>hr a b pins s2 σ H2 x y v u Q I2 rx ry q (hs _ _))
noncomputable def DN (K:PySem.W.Frag):R2:=fun x y H Q=>∃ p xs i v,x = .ref p/\y = .int i/\SqL K H p xs/\atI xs i=some v/\Q v H
noncomputable def GE (K:PySem.W.Frag):R2:=fun x y H Q=>∃ p xs i v,x = .ref p/\y = .int i/\SqT K H p xs/\atI xs i=some v/\Q v H
theorem FV:IxR X (DN X.K):=by
 intro value slice pins s σ H x y v u Q I rx ry h hs
 obtain⟨p,xs,i,z,rfl,rfl,hq,he,q⟩:=h
 cases rx
 obtain⟨t,rfl⟩:=ry
 obtain⟨its,r,pl,hz⟩:=I.list hq
 obtain⟨j,h1,h2,h3,h4,h5⟩:=Bt he
 obtain⟨w,ew,rw'⟩:=r.get h2
 have hl:=r.length
 have hn:=sY
 have fin:EP X pins σ Q w s:=⟨z,H,I,rw',q⟩
 by_cases h0:0<=i
 ·have hj:i.toNat=j:=by
   rw[seqIndex_of h0 h5]at h1
   exact Option.some.inj h1
  exact item_listR pl.isList h0 (by omega) (by rw[hj]; simpa using ew) fin hs
 ·have hj:(i+(its.toArray.size:Int)).toNat=j:=by
   rw[seqIndex_neg (by omega) h4]at h1
   rw[List.size_toArray,<- hl]
   exact Option.some.inj h1
  exact subscriptTail_builtinR (x:=w) pl.isList.typeIs slot_list_getitem.lookup
   (wpAny_getItem_list_neg (Q:=fun r s'=>r=w/\EP X pins σ Q r s') pl.isList (by omega) (by rw[List.size_toArray] <;> omega) (by omega) (by rw[hj]; simpa using ew) ⟨rfl,fin⟩) hs
theorem Ga:IxR X (GE X.K):=by
 intro value slice pins s σ H x y v u Q I rx ry h hs
 obtain⟨p,xs,i,z,rfl,rfl,hq,he,q⟩:=h
 cases rx
 obtain⟨t,rfl⟩:=ry
 obtain⟨its,r,pl,hz⟩:=I.tuple hq
 obtain⟨j,h1,h2,h3,h4,h5⟩:=Bt he
 obtain⟨w,ew,rw'⟩:=r.get h2
 have hl:=r.length
 have hn:=sY
 have fin:EP X pins σ Q w s:=⟨z,H,I,rw',q⟩
 exact subscriptTail_builtinR (x:=w) pl.typeIs slot_tuple_getitem.lookup
  (getItem_tuple (j:=j) (Q:=fun r s'=>r=w/\EP X pins σ Q r s') pl (by omega) (by omega) (by rw[List.size_toArray,<- hl]; exact h1) (by simpa using ew) ⟨rfl,fin⟩) hs
theorem wM (lo hi:Option Int) (n:Nat):(sliceBounds lo hi none n).1=((HT.sIx n 0 lo:Nat):Int)/\(sliceBounds lo hi none n).2.1=((HT.sIx n n hi:Nat):Int)/\(sliceBounds lo hi none n).2.2=1:=by
 refine⟨?_,?_,rfl⟩
 ·cases lo with
  | none=>simp [sliceBounds,HT.sIx]
  | some i=>
   simp only[sliceBounds,HT.sIx,Option.getD_none,show (1:Int) > 0 by decide,if_true]
   by_cases h:i<0
   ·simp only[h,if_true] <;> omega
   ·simp only[h,if_false] <;> omega
 ·cases hi with
  | none=>simp [sliceBounds,HT.sIx]
  | some i=>
   simp only[sliceBounds,HT.sIx,Option.getD_none,show (1:Int) > 0 by decide,if_true]
   by_cases h:i<0
   ·simp only[h,if_true] <;> omega
   ·simp only[h,if_false] <;> omega
theorem uA (its:List Value) (lo hi:Option Int):slicePick its.toArray lo hi none=((its.drop (HT.sIx its.length 0 lo)).take (HT.sIx its.length its.length hi - HT.sIx its.length 0 lo)).toArray:=by
 obtain⟨h1,h2,h3⟩:=wM lo hi its.toArray.size
 unfold slicePick
 rw[h1,h2,h3]
 simp only[sliceRange_one,pick_run,List.size_toArray] <;> rfl
noncomputable def GC (K:PySem.W.Frag):V->Option Int->Option Int->Hp->VK->Prop:=fun x lo hi H Q=>∃ a xs,x = .ref a/\SqL K H a xs/\∀ p,H p=none->Q (.ref p) (upd H p (.lst (fN xs lo hi)))
theorem Et:SlR X (GC X.K):=by
 intro pins s σ H x v vl vu lo hi sl Q I rx hs pl pu h
 obtain⟨a,xs,rfl,hx,q⟩:=h
 cases rx
 obtain⟨its,r,ht,hz⟩:=I.list hx
 have hlen:=r.length
 refine⟨"list",_,slot_list_getitem.lookup,ht.isList.typeIs,?_⟩
 refine wpAny_getItem_list_slice ht.isList hs pl pu .none (by simp) ?_ (by rw[List.size_toArray] <;> omega)
 rw[uA,<- hlen]
 refine⟨.ref s.heap.objs.size,_,I.laid (t':=s.toks) (o:=.lst (fN xs lo hi)) (fun b ob q=>Heap.get?_push_of_some _ q) (Nat.le_refl _) ?_,rfl,q _ (I.hok.fresh (Nat.le_refl _))⟩
 exact⟨Nat.le_trans (qB xs lo hi) hz,_,0,(r.drop (HT.sIx xs.length 0 lo)).take (HT.sIx xs.length xs.length hi - HT.sIx xs.length 0 lo),Heap.get?_push_size _ rfl⟩
noncomputable def mD:V->Bool
 | .non=>true
 | .bl _=>true
 | .int _=>true
 | .str _=>true
 | _=>false
noncomputable def eqV:V->V->Bool
 | .non,.non=>true
 | .bl a,.bl b=>a == b
 | .bl a,.int b=>(if a then 1 else 0) == b
 | .int a,.bl b=>a == (if b then 1 else 0)
 | .int a,.int b=>a == b
 | .str a,.str b=>a == b
 | _,_=>false
theorem Gi {A:Around} {s:Shared} {y x:V} {u v:Value} (ry:bU y u) (rx:bU x v) (fy:mD y=true) (fx:mD x=true):SeqAt.EqAt A s u v (eqV y x):=by
 cases y with
 | non=>
  cases ry
  cases x with
  | non=>cases rx; exact SeqAt.EqAt.same _
  | bl b=>cases rx; exact SeqAt.EqAt.none_bool b
  | int b=>obtain⟨t,rfl⟩:=rx; exact SeqAt.EqAt.none_int b t
  | str b=>obtain⟨t,rfl⟩:=rx; exact SeqAt.EqAt.none_str b t
  | _=>exact absurd (show false=true from fx) Bool.false_ne_true
 | bl a=>
  cases ry
  cases x with
  | non=>cases rx; exact SeqAt.EqAt.bool_none a
  | bl b=>cases rx; exact SeqAt.EqAt.bool_bool a b
  | int b=>obtain⟨t,rfl⟩:=rx; exact SeqAt.EqAt.bool_int a b t
  | str b=>obtain⟨t,rfl⟩:=rx; exact SeqAt.EqAt.bool_str a b t
  | _=>exact absurd (show false=true from fx) Bool.false_ne_true
 | int a=>
  obtain⟨t',rfl⟩:=ry
  cases x with
  | non=>cases rx; exact SeqAt.EqAt.int_none a t'
  | bl b=>cases rx; exact SeqAt.EqAt.int_bool a t' b
  | int b=>obtain⟨t,rfl⟩:=rx; exact SeqAt.EqAt.int_int a t' b t
  | str b=>obtain⟨t,rfl⟩:=rx; exact SeqAt.EqAt.int_str a t' b t
  | _=>exact absurd (show false=true from fx) Bool.false_ne_true
 | str a=>
  obtain⟨t',rfl⟩:=ry
  cases x with
  | non=>cases rx; exact SeqAt.EqAt.str_none a t'
  | bl b=>cases rx; exact SeqAt.EqAt.str_bool a t' b
  | int b=>obtain⟨t,rfl⟩:=rx; exact SeqAt.EqAt.str_int a t' b t
  | str b=>obtain⟨t,rfl⟩:=rx; exact SeqAt.EqAt.str_str a t' b t
  | _=>exact absurd (show false=true from fx) Bool.false_ne_true
 | _=>exact absurd (show false=true from fy) Bool.false_ne_true
noncomputable def eqU (x:V) (u:Value):Bool:=match u with
 | .none=>eqV .non x
 | .bool b=>eqV (.bl b) x
 | .int i _=>eqV (.int i) x
 | .str z _=>eqV (.str z) x
 | _=>false
theorem EI {x y:V} {u:Value} (r:bU y u) (f:mD y=true):eqU x u=eqV y x:=by
 cases y with
 | non=>cases r; rfl
 | bl b=>cases r; rfl
 | int i=>obtain⟨t,rfl⟩:=r; rfl
 | str z=>obtain⟨t,rfl⟩:=r; rfl
 | _=>exact absurd (show false=true from f) Bool.false_ne_true
theorem yH {x:V}:∀ {xs:List V} {us:List Value},bQ xs us->xs.all mD=true->us.any (eqU x)=xs.any fun y=>eqV y x
 | _,_,.nil,_=>rfl
 | y::xs,u::us,.cons r t,f=>by
  rw[List.all_cons,Bool.and_eq_true]at f
  rw[List.any_cons,List.any_cons,EI r f.1,yH t f.2]
theorem sV {A:Around} {s:Shared} {x:V} {v:Value} (rx:bU x v) (fx:mD x=true):∀ {xs:List V} {us:List Value},bQ xs us->xs.all mD=true->∀ u∈us,SeqAt.EqAt A s u v (eqU x u)
 | _,_,.nil,_=>fun u hu=>by cases hu
 | y::xs,u::us,.cons r t,f=>fun u' hu=>by
  rw[List.all_cons,Bool.and_eq_true]at f
  rcases List.mem_cons.mp hu with rfl | hu
  ·rw[EI r f.1]; exact Gi r rx f.1 fx
  ·exact sV rx fx t f.2 u' hu
noncomputable def inV (x:V) (xs:List V):Bool:=xs.any fun y=>eqV y x
noncomputable def rIn (K:PySem.W.Frag) (neg:Bool):R2:=fun x y H Q=>∃ p xs,y = .ref p/\(SqL K H p xs\/SqT K H p xs)/\mD x=true/\xs.all mD=true/\Q (.bl (if neg then !inV x xs else inV x xs)) H
theorem xF:OpR X (compareOp .NotIn) (rIn X.K true):=by
 intro pins s σ H x y v u Q I rx ry h
 obtain⟨p,xs,rfl,hq,fx,fs,q⟩:=h
 cases ry
 rcases hq with hq | hq
 ·obtain⟨its,r,pl,hz⟩:=I.list hq
  refine SeqAt.notIn_listAt (eqU x) pl.isList (fun w hw=>sV rx fx r fs w (by simpa using hw)) ⟨.bl _,H,I,rfl,?_⟩
  rw[show its.toArray.any (eqU x)=its.any (eqU x) by simp,yH r fs]
  exact q
 ·obtain⟨its,r,pl,hz⟩:=I.tuple hq
  refine SeqAt.notIn_tupleAt (eqU x) pl (fun w hw=>sV rx fx r fs w (by simpa using hw)) ⟨.bl _,H,I,rfl,?_⟩
  rw[show its.toArray.any (eqU x)=its.any (eqU x) by simp,yH r fs]
  exact q
theorem yF:eX X (.builtin "len") (fun xs H Q=>∃ p ys,xs=[.ref p]/\(SqL X.K H p ys\/SqT X.K H p ys)/\Q (.int ys.length) H):=by
 intro pins s σ H xs us Q I r h
 obtain⟨p,ys,rfl,hq,q⟩:=h
 obtain⟨u,rfl,rx⟩:=yL r
 cases rx
 have hn:=sY
 rcases hq with hq | hq
 ·obtain⟨its,r',pl,hz⟩:=I.list hq
  have hlen:=r'.length
  exact Calls.call_len_list pl.isList (by simp only[List.size_toArray] <;> omega) ⟨.int ys.length,H,I.tok _,⟨s.toks+1,by rw[List.size_toArray,hlen]⟩,q⟩
 ·obtain⟨its,r',pl,hz⟩:=I.tuple hq
  have hlen:=r'.length
  exact len_tuple pl (by simp only[List.size_toArray] <;> omega) ⟨.int ys.length,H,I.tok _,⟨s.toks+1,by rw[List.size_toArray,hlen]⟩,q⟩
theorem yE:eX X (.builtin "len") (fun xs H Q=>∃ z,xs=[.str z]/\z.length<=sizeLine/\Q (.int z.length) H):=by
 intro pins s σ H xs us Q I r h
 obtain⟨z,rfl,hz,q⟩:=h
 obtain⟨u,rfl,t,rfl⟩:=yL r
 have hn:=sY
 exact len_str (by omega) ⟨.int z.length,H,I.tok _,⟨_,rfl⟩,q⟩
theorem uR:eX X (.type "tuple") (fun xs H Q=>∃ p ys,xs=[.ref p]/\((SqL X.K H p ys/\∀ l,H l=none->Q (.ref l) (upd H l (.tup ys)))\/(SqT X.K H p ys/\Q (.ref p) H))):=by
 intro pins s σ H xs us Q I r h
 obtain⟨p,ys,rfl,h⟩:=h
 obtain⟨u,rfl,rx⟩:=yL r
 cases rx
 rcases h with ⟨hq,q⟩ | ⟨hq,q⟩
 ·obtain⟨its,r',pl,hz⟩:=I.list hq
  have hlen:=r'.length
  refine call_tuple_list pl.isList (fun h' kp=>?_) (by simp only[List.size_toArray] <;> omega)
  have I1:Inv X pins σ H { s with heap:=h' }:=I.kept (t':=s.toks) kp
  have I2:Inv X pins σ (upd H h'.objs.size (.tup ys)) { s with heap:=h'.push { cls:=.type "tuple",data:=.seq its.toArray } }:=
   I1.laid (t':=s.toks) (fun b o e=>Heap.get?_push_of_some _ e) (Nat.le_refl _) (show dI X.prog X.w _ _ _ (.tup ys) from ⟨hz,its,r',IsTup.new _ _⟩)
  exact⟨.ref h'.objs.size,_,I2,rfl,q _ (I1.hok.fresh (Nat.le_refl _))⟩
 ·obtain⟨its,r',pl,hz⟩:=I.tuple hq
  exact call_tuple_same pl ⟨.ref p,H,I,rfl,q⟩
noncomputable def tyV (K:PySem.W.Frag) (T:String) (x:V) (H:Hp):Prop:=match x with
 | .str _=>T = "str"
 | .int _=>T = "int"
 | .ref p=>(T = "list"/\∃ xs,SqL K H p xs)\/(T = "tuple"/\∃ o,K.lookup p=some o/\o.cls = .type "tuple"/\o.dict=none)\/
   (T = "dict"/\((∃ kvs,H p=some (.dK kvs))\/∃ kvs,H p=some (.dT kvs)))\/(T = "set"/\∃ S n,H p=some (.set S n))
 | _=>False
theorem C0 {pins:List (Addr × Obj)} {σ : St} {H:Hp} {s:Shared} {T:String} {x:V} {v:Value} (I:Inv X pins σ H s) (r:bU x v) (ty:tyV X.K T x H) :
  s.TypeIs v T/\∀ a,v = .ref a->∃ ob,s.heap.get? a=some ob/\ob.dict=none:=by
 cases x with
 | str z=>
  obtain⟨t,rfl⟩:=r
  cases (show T = "str" from ty)
  exact⟨typeIs_str s z t,fun _ e=>nomatch e⟩
 | int i=>
  obtain⟨t,rfl⟩:=r
  cases (show T = "int" from ty)
  exact⟨typeIs_int s i t,fun _ e=>nomatch e⟩
 | ref p=>
  cases r
  rcases ty with ⟨rfl,xs,hq⟩ | ⟨rfl,o,hk,hc,hd⟩ | ⟨rfl,hk⟩ | ⟨rfl,S,n,hk⟩
  ·obtain⟨its,_,pl,_⟩:=I.list hq
   refine⟨pl.isList.typeIs,fun a e=>?_⟩
   cases e
   obtain⟨o,n,e,c,hd,_⟩:=pl
   exact⟨o,e,hd⟩
  ·refine⟨⟨o,I.kIn p o hk,hc⟩,fun a e=>?_⟩
   cases e
   exact⟨o,I.kIn _ o hk,hd⟩
  ·have z:∃ o,s.heap.get? p=some o/\o.ExactDict:=by
    rcases hk with ⟨kvs,hk⟩ | ⟨kvs,hk⟩
    ·obtain⟨_,_,_,_,o,_,_,e,ex,_⟩:=I.hok p _ hk
     exact⟨o,e,ex⟩
    ·obtain⟨_,_,_,_,o,_,_,e,ex,_⟩:=I.hok p _ hk
     exact⟨o,e,ex⟩
   obtain⟨o,e,ex⟩:=z
   refine⟨⟨o,e,ex.1⟩,fun a e2=>?_⟩
   cases e2
   exact⟨o,e,ex.2.1⟩
  ·obtain⟨o,_,_,_,e,ex,_⟩:=I.hok p _ hk
   refine⟨⟨o,e,ex.1⟩,fun a e2=>?_⟩
   cases e2
   exact⟨o,e,ex.2.1⟩
 | _=>exact False.elim ty
noncomputable def tBM0 (K:PySem.W.Frag) (T:String) (r:V->List V->Hp->VK->Prop) (to:TE):TE:=fun σ H Q=>to σ H fun x H1=>tyV K T x H1/\r x [] H1 Q
noncomputable def tBM (K:PySem.W.Frag) (T:String) (r:V->List V->Hp->VK->Prop) (to:TE) (t:TA):TE:=fun σ H Q=>to σ H fun x H1=>tyV K T x H1/\t σ H1 fun xs H2=>r x xs H2 Q
variable {o e:Expr} {es:List Expr} {to:TE} {t:TA} {name:Str} {apos cpos:Pos} {T id:String} {r:V->List V->Hp->VK->Prop}
theorem GM (pa:PlainAttrs T) (slot:Slot T name id) (hty:typeOf (.builtin id)=pure (.type "method_descriptor")) (hm:MtR X id r) (ho:PE X o to)
  (hbase:attributeBase o name X.env (eval o X.env)=eval o X.env:=by rfl) (hline:(apos.endLine == cpos.line)=true:=by rfl):PE X (.Call (.Attribute o name apos) [] [] cpos) (tBM0 X.K T r to):=by
 intro pins s σ H Q I h
 refine wpAny_Call_method0_late hbase hline (thn (ho pins s σ H _ I h) fun v s1 zQq=>?_)
 obtain⟨x,H1,I1,r1,ty,q1⟩:=zQq
 obtain⟨h1,h2⟩:=C0 I1 r1 ty
 exact⟨T,id,pa,slot,hty,h1,h2,Calls.callWith_builtin rfl (PySem.evalArgs_none (hm pins s1 σ H1 x [] v [] Q I1 r1 .nil q1))⟩
theorem pe_bm (pa:PlainAttrs T) (slot:Slot T name id) (hty:typeOf (.builtin id)=pure (.type "method_descriptor")) (hm:MtR X id r) (ho:PE X o to) (ha:PA X (e::es) t)
  (hbase:attributeBase o name X.env (eval o X.env)=eval o X.env:=by rfl)
  (hfew:((backTo cpos (starEach (e::es) X.env)).all (fun x=>!x.1) && (backToKw cpos (keywordEach [] X.env)).all (fun x=>x.1.isSome)
   && decide ((e::es).length+([]:List Keyword).length+(if ([]:List Keyword).isEmpty then 0 else 1)<30))=true:=by rfl)
  (hline:(apos.endLine == cpos.line)=true:=by rfl) (hs:starEach (e::es) X.env=(false,eval e X.env)::starEach es X.env:=by rfl) (hplain:(backTo cpos (starEach es X.env)).any (·.1)=false:=by rfl) :
  PE X (.Call (.Attribute o name apos) (e::es) [] cpos) (tBM X.K T r to t):=by
 intro pins s σ H Q I h
 refine wpAny_Call_method_late hbase hfew hline rfl (thn (ho pins s σ H _ I h) fun v s1 zQq=>?_)
 obtain⟨x,H1,I1,r1,ty,q1⟩:=zQq
 obtain⟨h1,h2⟩:=C0 I1 r1 ty
 refine⟨T,id,pa,slot,hty,h1,h2,?_⟩
 have hA:=ha cpos pins s1 σ H1 _ I1 q1
 rw[hs]at hA ⊢
 refine Calls.callWith_builtin (by show (false || (backTo cpos (starEach es X.env)).any (·.1))=false; rw[hplain] <;> rfl) (Calls.evalArgs_plain ?_)
 exact thn hA fun us s2 ⟨vs,H2,I2,r2,q2⟩=>hm pins s2 σ H2 x vs v us Q I2 r1 r2 q2
end
end L2
namespace L2
open PySem PySem.Spec PyProof.Rows
noncomputable def MtM (X:Cx) (id:String) (r:V->List V->Hp->VK->Prop):Prop:=
 ∀ (pins:List (Addr × Obj)) (s:Shared) (σ : St) (H:Hp) (x:V) (xs:List V) (v:Value) (us:List Value) (Q:VK),Inv X pins σ H s->bU x v->bQ xs us->r x xs H Q->
  wpAny (model X.prog X.w) X.A (call (.builtin id) (v::us)) (EP X pins σ Q) X.xe s
theorem bQ.one:∀ {x:V} {us:List Value},bQ [x] us->∃ u,us=[u]/\bU x u
 | _,_,.cons r .nil=>⟨_,rfl,r⟩
section
variable {X:Cx} {pins:List (Addr × Obj)} {σ : St} {H:Hp} {s:Shared} {l b:Addr} {xs ys zs:List V}
theorem Inv.lset {its its':List Value} {n:Nat} {f:Array Value->Array Value} {t':Nat} (I:Inv X pins σ H s) (hH:H l=some (.lst xs))
  (e:s.heap.get? l=some { cls:=.type "list",data:=.seq its.toArray n }) (hf:f its.toArray=its'.toArray) (hv:bQ ys its') (hz:ys.length<=sizeLine) :
  Inv X pins σ (upd H l (.lst ys)) { s with heap:=s.heap.update l (Obj.mapSeq f),toks:=t' }:=by
 have q:=PySem.IsL.update e f
 rw[hf]at q
 refine I.write (x:=l) (e:=l) (by rw[hH]; exact trivial) (.inl rfl) (fun b' u hb hu=>(Heap.get?_update_other s.heap (Obj.mapSeq f) (Ne.symm hb)).trans hu) ⟨_,q⟩ ?_
 exact⟨hz,its',_,hv,q⟩
theorem Inv.lstM (I:Inv X pins σ H s) (hH:H l=some (.lst xs)):xs.length<=sizeLine/\∃ (its:List Value) (n:Nat),bQ xs its/\xs.length=its.length/\s.heap.get? l=some { cls:=.type "list",data:=.seq its.toArray n }:=by
 obtain⟨z,its,n,r,e⟩:=I.hok l _ hH
 exact⟨z,its,n,r,r.length,e⟩
end
section
variable {X:Cx}
noncomputable def E3:V->List V->Hp->VK->Prop:=fun x vs H Q=>∃ l xs y,x = .ref l/\vs=[y]/\H l=some (.lst xs)/\xs.length<sizeLine/\Q .non (upd H l (.lst (xs++[y])))
theorem lT:MtM X "list.append" E3:=by
 intro pins s σ H x vs v us Q I rx rv h
 obtain⟨l,xs,y,rfl,rfl,hH,hz,q⟩:=h
 cases rx
 obtain⟨u,rfl,ru⟩:=rv.one
 obtain⟨z,its,n,r,hl,e⟩:=I.lstM hH
 refine call_meets F.slot_list_append ⟨_,e,rfl⟩ F.entry_list_append (F.args_list_append_2 _ _) (PySem.list_append l its.toArray n u (by rw[List.size_toArray]; omega)) ⟨e,?_⟩
 refine⟨.non,_,I.lset (its':=its++[u]) hH e (by simp) (r.append (.cons ru .nil)) ?_,rfl,q⟩
 rw[List.length_append,List.length_singleton]
 omega
end
section
variable {prog:Program} {w:World} {A:Around} {E:Value->Shared->Prop} {s:Shared}
end
section
variable {X:Cx}
end
end L2
namespace L2
open PySem PySem.Spec PyProof.Rows
section
variable {κ : Type} [DecidableEq κ]
noncomputable def eE (kvs:List (κ × V)) (k:κ):Option V:=(kvs.find? fun kv=>decide (kv.1=k)).map (·.2)
noncomputable def gP (kvs:List (κ × V)) (k:κ) (v:V):List (κ × V):=
 if (kvs.any fun kv=>decide (kv.1=k))=true then kvs.map (fun kv=>if kv.1=k then (kv.1,v) else kv) else kvs++[(k,v)]
noncomputable def gB (kvs:List (κ × V)) (k:κ):List (κ × V):=kvs.filter fun kv=>decide (kv.1≠k)
theorem gU {p:κ × V} {r:List (κ × V)} {k:κ} (e:p.1=k):eE (p::r) k=some p.2:=by simp [eE,List.find?_cons,e]
theorem gW {p:κ × V} {r:List (κ × V)} {k:κ} (e:¬ p.1=k):eE (p::r) k=eE r k:=by simp [eE,List.find?_cons,e]
theorem kI (k:κ):∀ kvs:List (κ × V),(kvs.any fun kv=>decide (kv.1=k))=(eE kvs k).isSome
 | []=>rfl
 | p::r=>by
  rw[List.any_cons]
  by_cases e:p.1=k
  ·simp only[gU e,decide_eq_true e,Bool.true_or,Option.isSome_some]
  ·rw[gW e,decide_eq_false e,Bool.false_or]; exact kI k r
theorem pY (kvs:List (κ × V)) (k:κ) (v:V):(gP kvs k v).length<=kvs.length+1:=by
 unfold gP
 split
 ·rw[List.length_map]; omega
 ·rw[List.length_append,List.length_cons,List.length_nil]; omega
theorem DT {kvs:List (κ × V)} {k:κ} (v:V) (h:eE kvs k=none):gP kvs k v=kvs++[(k,v)]:=by
 unfold gP
 rw[kI,h]
 exact if_neg (by decide)
theorem lH.isSome_eq {o:Option V} {u:Option Value} (r:lH o u):o.isSome=u.isSome:=by
 cases o with
 | none=>cases u with
  | none=>rfl
  | some _=>exact(show False from r).elim
 | some _=>cases u with
  | none=>exact(show False from r).elim
  | some _=>rfl
theorem KV.val {kvs:List (κ × V)} {vs:List (κ × Value)} (r:KV kvs vs) (k:κ):lH (eE kvs k) (valueAt vs k):=by
 unfold KV at r
 induction r with
 | nil=>exact True.intro
 | @cons p q ps qs h t ih=>
  obtain⟨h1,h2⟩:=h
  by_cases e:p.1=k
  ·have e':q.1=k:=h1.symm.trans e
   have b:valueAt (q::qs) k=some q.2:=by simp [valueAt,List.find?_cons,e']
   rw[gU e,b]; exact h2
  ·have e':¬ q.1=k:=fun z=>e (h1.trans z)
   have b:valueAt (q::qs) k=valueAt qs k:=by simp [valueAt,List.find?_cons,e']
   rw[gW e,b]; exact ih
theorem KV.any {kvs:List (κ × V)} {vs:List (κ × Value)} (r:KV kvs vs) (k:κ):(kvs.any fun kv=>decide (kv.1=k))=vs.any fun kv=>decide (kv.1=k):=by
 unfold KV at r
 induction r with
 | nil=>rfl
 | cons h t ih=>rw[List.any_cons,List.any_cons,ih,h.1]
theorem KV.repl {kvs:List (κ × V)} {vs:List (κ × Value)} (r:KV kvs vs) (k:κ) {y:V} {u:Value} (ry:bU y u) :
  KV (kvs.map fun kv=>if kv.1=k then (kv.1,y) else kv) (vs.map fun kv=>if kv.1=k then (kv.1,u) else kv):=by
 unfold KV at r ⊢
 induction r with
 | nil=>exact .nil
 | @cons p q ps qs h t ih=>
  rw[List.map_cons,List.map_cons]
  refine .cons ?_ ih
  obtain⟨h1,h2⟩:=h
  by_cases e:p.1=k
  ·rw[if_pos e,if_pos (h1.symm.trans e)]; exact⟨h1,ry⟩
  ·rw[if_neg e,if_neg (fun z=>e (h1.trans z))]; exact⟨h1,h2⟩
theorem KV.put {kvs:List (κ × V)} {vs:List (κ × Value)} (r:KV kvs vs) (k:κ) {y:V} {u:Value} (ry:bU y u):KV (gP kvs k y) (stored vs k u):=by
 unfold gP stored
 rw[r.any k]
 by_cases e:(vs.any fun kv=>decide (kv.1=k))=true
 ·rw[if_pos e,if_pos e]; exact r.repl k ry
 ·rw[if_neg e,if_neg e]; exact Paired.snoc r ⟨rfl,ry⟩
theorem KV.drop {kvs:List (κ × V)} {vs:List (κ × Value)} (r:KV kvs vs) (k:κ):KV (gB kvs k) (without vs k):=by
 unfold KV at r ⊢
 unfold gB without
 induction r with
 | nil=>exact .nil
 | @cons p q ps qs h t ih=>
  obtain⟨h1,h2⟩:=h
  rw[List.filter_cons,List.filter_cons]
  by_cases e:p.1=k
  ·have a:¬ decide (p.1≠k)=true:=by simp [e]
   have b:¬ decide (q.1≠k)=true:=by simp [h1.symm.trans e]
   rw[if_neg a,if_neg b]; exact ih
  ·have e':¬ q.1=k:=fun z=>e (h1.trans z)
   have a:decide (p.1≠k)=true:=by simp [e]
   have b:decide (q.1≠k)=true:=by simp [e']
   rw[if_pos a,if_pos b]; exact .cons ⟨h1,h2⟩ ih
theorem KV.length {kvs:List (κ × V)} {vs:List (κ × Value)} (r:KV kvs vs):kvs.length=vs.length:=Paired.length r
theorem EL (kvs:List (κ × V)) (k:κ):(gB kvs k).length<=kvs.length:=List.length_filter_le _ _
end
theorem vL {P:Program} {w:World} {k:Key} {u:Value} (r:bU (kV k) u):(cE P w).is k u=true:=by
 cases k with
 | inl i=>obtain⟨t,e⟩:=(show ∃ t,u=Value.int i t from r); subst e; exact zC P w i t
 | inr x=>obtain⟨t,e⟩:=(show ∃ t,u=Value.str x t from r); subst e; exact zB P w x t
theorem vM {P:Program} {w:World}:∀ {ks:List Key} {us:List Value},bQ (ks.map kV) us->ItemsAre (cE P w) ks us
 | [],_,r=>by rw[List.map_nil]at r; cases r; exact .nil
 | k::ks,_,r=>by
  rw[List.map_cons]at r
  cases r with
  | cons h t=>exact .cons (vL h) (vM t)
noncomputable abbrev KT (H:Hp):List (List Key × V)->List (List Key × Addr × Value)->Prop:=Paired fun p q=>p.1=q.1/\H q.2.1=some (.tup (p.1.map kV))/\bU p.2 q.2.2
theorem KT.val {H:Hp} {kvs:List (List Key × V)} {xs:List (List Key × Addr × Value)} (r:KT H kvs xs) (k:List Key):lH (eE kvs k) ((atKey xs k).map (·.2)):=by
 induction r with
 | nil=>exact True.intro
 | @cons p q ps qs h t ih=>
  obtain⟨h1,_,h2⟩:=h
  by_cases e:p.1=k
  ·have e':q.1=k:=h1.symm.trans e
   have b:atKey (q::qs) k=some q.2:=by simp [atKey,List.find?_cons,e']
   rw[gU e,b]; exact h2
  ·have e':¬ q.1=k:=fun z=>e (h1.trans z)
   have b:atKey (q::qs) k=atKey qs k:=by simp [atKey,List.find?_cons,e']
   rw[gW e,b]; exact ih
theorem KT.repl {H:Hp} {kvs:List (List Key × V)} {xs:List (List Key × Addr × Value)} (r:KT H kvs xs) (k:List Key) {y:V} {u:Value} (ry:bU y u) :
  KT H (kvs.map fun kv=>if kv.1=k then (kv.1,y) else kv) (xs.map (putAt k u)):=by
 induction r with
 | nil=>exact .nil
 | @cons p q ps qs h t ih=>
  rw[List.map_cons,List.map_cons]
  refine .cons ?_ ih
  obtain⟨h1,h2,h3⟩:=h
  unfold putAt
  by_cases e:p.1=k
  ·rw[if_pos e,if_pos (h1.symm.trans e)]; exact⟨h1,h2,ry⟩
  ·rw[if_neg e,if_neg (fun z=>e (h1.trans z))]; exact⟨h1,h2,h3⟩
theorem KT.put {H:Hp} {kvs:List (List Key × V)} {xs:List (List Key × Addr × Value)} (r:KT H kvs xs) (k:List Key) {b:Addr} {y:V} {u:Value} (hb:H b=some (.tup (k.map kV))) (ry:bU y u) :
  KT H (gP kvs k y) (storedH xs k b u):=by
 have e:(kvs.any fun kv=>decide (kv.1=k))=(atKey xs k).isSome:=by
  rw[kI,(r.val k).isSome_eq,Option.isSome_map]
 unfold gP storedH
 rw[e]
 by_cases q:(atKey xs k).isSome=true
 ·rw[if_pos q,if_pos q]; exact r.repl k ry
 ·rw[if_neg q,if_neg q]; exact Paired.snoc r ⟨rfl,hb,ry⟩
theorem KT.keeps {H H':Hp} {kvs:List (List Key × V)} {xs:List (List Key × Addr × Value)} (r:KT H kvs xs) (ht:∀ b ys,H b=some (.tup ys)->H' b=some (.tup ys)):KT H' kvs xs:=
 Paired.mapP r fun _ _ z=>⟨z.1,ht _ _ z.2.1,z.2.2⟩
section
variable {P:Program} {w:World} {H:Hp} {h:Heap} {a:Addr}
theorem Fo {u:HO} (ok:HOk P w H h) (e:Rd H a u):dI P w H h a u:=e.ok ok
theorem zU {kvs:List (Key × V)} (ok:HOk P w H h) (e:Rd H a (.dK kvs)):kvs.length<=sizeLine/\(a == sysModules)=false/\∃ vs,KV kvs vs/\h.DictOf (cE P w) a vs:=
 show dI P w H h a (.dK kvs) from Fo ok e
theorem vU {kvs:List (Key × V)} (ok:HOk P w H h) (e:H a=some (.dK kvs)):kvs.length<=sizeLine/\(a == sysModules)=false/\∃ vs,KV kvs vs/\h.DictOf (cE P w) a vs:=zU ok (.inl e)
theorem tF {ks:List Key} (ok:HOk P w H h) (e:H a=some (.tup (ks.map kV))):(tupleKind (cE P w)).is h ks a:=by
 obtain⟨_,its,r,o,h1,h2,n,h3⟩:=(show dI P w H h a (.tup (ks.map kV)) from ok a _ e)
 exact⟨o,its.toArray,n,h1,h2,h3,by simpa using vM r⟩
theorem zQ {kvs:List (List Key × V)} (ok:HOk P w H h) (e:Rd H a (.dT kvs)):kvs.length<=sizeLine/\(a == sysModules)=false/\
  ∃ xs,KT H kvs xs/\h.DictOfH (tupleKind (cE P w)) a xs:=by
 obtain⟨z,y,xs,r,o,es,ep,h1,h2,h3,h4,h5⟩:=(show dI P w H h a (.dT kvs) from Fo ok e)
 refine⟨z,y,xs,r,o,es,ep,h1,h2,h3,h4,fun x hx=>?_,h5⟩
 have all:∀ {l:List (List Key × V)} {m:List (List Key × Addr × Value)},KT H l m->∀ x∈m,(tupleKind (cE P w)).is h x.1 x.2.1:=by
  intro l m q
  induction q with
  | nil=>intro x hx; exact nomatch hx
  | @cons p q ps qs hq t ih=>
   intro x hx
   rcases List.mem_cons.mp hx with e | hx
   ·subst e
    exact tF ok (by rw[<- hq.1]; exact hq.2.1)
   ·exact ih x hx
 exact all r x hx
theorem dt_of {kvs:List (List Key × V)} (ok:HOk P w H h) (e:H a=some (.dT kvs)):kvs.length<=sizeLine/\(a == sysModules)=false/\
  ∃ xs,KT H kvs xs/\h.DictOfH (tupleKind (cE P w)) a xs:=zQ ok (.inl e)
end
noncomputable def eO (H:Hp) (a:Addr) (y:V) (r:Option V):Prop:=
 (∃ kvs k,Rd H a (.dK kvs)/\y=kV k/\r=eE kvs k)\/∃ kvs k b,Rd H a (.dT kvs)/\y = .ref b/\H b=some (.tup (k.map kV))/\r=eE kvs k
noncomputable def tZ (H:Hp) (a:Addr) (y v:V) (H':Hp):Prop:=
 (∃ kvs k,H a=some (.dK kvs)/\y=kV k/\kvs.length<sizeLine/\H'=upd H a (.dK (gP kvs k v)))\/
 ∃ kvs k b,H a=some (.dT kvs)/\y = .ref b/\H b=some (.tup (k.map kV))/\kvs.length<sizeLine/\H'=upd H a (.dT (gP kvs k v))
theorem eO.k {H:Hp} {a:Addr} {kvs:List (Key × V)} {k:Key} (e:H a=some (.dK kvs)):eO H a (kV k) (eE kvs k):=.inl ⟨kvs,k,.inl e,rfl,rfl⟩
theorem tZ.k {H:Hp} {a:Addr} {kvs:List (Key × V)} {k:Key} {v:V} (e:H a=some (.dK kvs)) (hl:kvs.length<sizeLine):tZ H a (kV k) v (upd H a (.dK (gP kvs k v))):=.inl ⟨kvs,k,e,rfl,hl,rfl⟩
section
variable {X:Cx} {pins:List (Addr × Obj)} {σ : St} {H:Hp} {s:Shared} {a:Addr} {y v:V} {u r:Value} {o:Option V} {A:Around} {E:Value->Shared->Prop}
theorem Inv.big (I:Inv X pins σ H s):sysModules<s.heap.objs.size:=by
 have h:mainGlobals<s.heap.objs.size:=(I.mod.glob.keeps I.bk).lt
 exact Nat.lt_trans (by decide) h
theorem Co {Q:Value->Shared->Prop} (hu:A.units+1<cLine) (I:Inv X pins σ H s) (g:eO H a y (some v)) (ry:bU y u) (h:∀ w' s',Inv X pins σ H s'->bU v w'->Q w' s') :
  wpAny (model X.prog X.w) A (getItem (.ref a) u) Q E s:=by
 rcases g with ⟨kvs,k,e,ey,l⟩ | ⟨kvs,k,b,e,ey,eb,l⟩
 ·subst ey
  obtain⟨z,hd,vs,rel,dd⟩:=zU I.hok e
  obtain⟨w',hw,rw'⟩:=lH.some_of (v:=v) (o:=valueAt vs k) (by rw[l]; exact rel.val k)
  exact wpAny_getItem_of (vL ry) dd.mapOf hw (h w' _ (I.tok _) rw')
 ·subst ey
  cases (show u=Value.ref b from ry)
  obtain⟨z,hd,xs,rel,dd⟩:=zQ I.hok e
  obtain⟨w',hw,rw'⟩:=lH.some_of (v:=v) (o:=(atKey xs k).map (·.2)) (by rw[l]; exact rel.val k)
  obtain⟨p,hp,hp2⟩:=Option.map_eq_some_iff.mp hw
  refine wpAny_getItem_heap (tupleKind_room_in1 hu) (tF I.hok eb) dd hp ?_
  rw[hp2]
  exact h w' _ (I.tok _) rw'
theorem d_in {Q:Value->Shared->Prop} (hu:A.units+1<cLine) (I:Inv X pins σ H s) (g:eO H a y o) (ry:bU y u) (h:∀ s',Inv X pins σ H s'->Q (.bool o.isSome) s') :
  wpAny (model X.prog X.w) A (compareOp .In u (.ref a)) Q E s:=by
 rcases g with ⟨kvs,k,e,ey,l⟩ | ⟨kvs,k,b,e,ey,eb,l⟩
 ·subst ey
  obtain⟨z,hd,vs,rel,dd⟩:=zU I.hok e
  refine wpAny_in_of (vL ry) hd dd.mapOf ?_
  rw[<- (rel.val k).isSome_eq,<- l]
  exact h _ (I.tok _)
 ·subst ey
  cases (show u=Value.ref b from ry)
  obtain⟨z,hd,xs,rel,dd⟩:=zQ I.hok e
  refine wpAny_in_heap (tupleKind_room_in1 hu) (tF I.hok eb) hd dd ?_
  have q:=(rel.val k).isSome_eq
  rw[Option.isSome_map]at q
  rw[<- q,<- l]
  exact h _ (I.tok _)
theorem Fb {Q:Value->Shared->Prop} (hu:A.units+1<cLine) (I:Inv X pins σ H s) (g:eO H a y o) (ry:bU y u) (h:∀ s',Inv X pins σ H s'->Q (.bool (!o.isSome)) s') :
  wpAny (model X.prog X.w) A (compareOp .NotIn u (.ref a)) Q E s:=by
 rcases g with ⟨kvs,k,e,ey,l⟩ | ⟨kvs,k,b,e,ey,eb,l⟩
 ·subst ey
  obtain⟨z,hd,vs,rel,dd⟩:=zU I.hok e
  refine wpAny_notIn_of (vL ry) hd dd.mapOf ?_
  rw[<- (rel.val k).isSome_eq,<- l]
  exact h _ (I.tok _)
 ·subst ey
  cases (show u=Value.ref b from ry)
  obtain⟨z,hd,xs,rel,dd⟩:=zQ I.hok e
  refine wpAny_notIn_heap (tupleKind_room_in1 hu) (tF I.hok eb) hd dd ?_
  have q:=(rel.val k).isSome_eq
  rw[Option.isSome_map]at q
  rw[<- q,<- l]
  exact h _ (I.tok _)
theorem x9 {h':Heap} {t':Nat} {ob:HO} (I:Inv X pins σ H s) (mu:Mut (H a)) (hs:Heap.SameBut a s.heap h') (he:∃ q,h'.get? a=some q) (new:dI X.prog X.w (upd H a ob) h' a ob) :
  Inv X pins σ (upd H a ob) { s with heap:=h',toks:=t' }:=
 I.write (x:=a) (e:=a) mu (.inl rfl) (fun b q hb z=>(hs.2 b hb).trans z) he new
theorem EM {P:Program} {w:World} {H':Hp} {h':Heap} {kvs:List (Key × V)} {vs:List (Key × Value)} (z:kvs.length<=sizeLine) (hd:(a == sysModules)=false) (rel:KV kvs vs) (dd:h'.DictOf (cE P w) a vs) :
  dI P w H' h' a (.dK kvs):=⟨z,hd,vs,rel,dd⟩
theorem Cn {H':Hp} {Q:Unit->Shared->Prop} (hu:A.units+1<cLine) (I:Inv X pins σ H s) (g:tZ H a y v H') (ry:bU y u) (rv:bU v r) (h:∀ s',Inv X pins σ H' s'->Q () s') :
  wpAny (model X.prog X.w) A (setItem (.ref a) u r) Q E s:=by
 rcases g with ⟨kvs,k,e,ey,l,eH⟩ | ⟨kvs,k,b,e,ey,eb,l,eH⟩
 ·subst ey eH
  obtain⟨z,hd,vs,rel,dd⟩:=vU I.hok e
  have hz:vs.length<=sizeLine:=by rw[<- rel.length]; exact z
  have hl:(gP kvs k v).length<=sizeLine:=by have:=pY kvs k v; omega
  refine wpAny_setItem_pairs (hsz:=hz) (vL ry) dd fun h' dd' hs=>h _ ?_
  have he:∃ q,h'.get? a=some q:=let ⟨q,_,_,hq,_⟩:=dd'; ⟨q,hq⟩
  exact x9 I (by rw[e]; exact True.intro) hs he (EM hl hd (rel.put k rv) dd')
 ·subst ey eH
  cases (show u=Value.ref b from ry)
  obtain⟨z,hd,xs,rel,dd⟩:=dt_of I.hok e
  have hz:xs.length<=sizeLine:=by rw[<- Paired.length rel]; exact z
  have hl:(gP kvs k v).length<=sizeLine:=by have:=pY kvs k v; omega
  refine wpAny_setItem_heap (hsz:=hz) (tupleKind_room_in1 hu) (tF I.hok eb) dd fun h' dd' hs=>h _ ?_
  obtain⟨q,es,ep,hq,h2,h3,h4,_,h5⟩:=dd'
  refine x9 I (by rw[e]; exact True.intro) hs ⟨q,hq⟩ ⟨hl,hd,_,(rel.put k eb rv).keeps fun c ys ec=>?_,q,es,ep,hq,h2,h3,h4,h5⟩
  rw[aG (ne_of ec e (fun z=>nomatch z))]
  exact ec
end
section
variable {X:Cx} {pins:List (Addr × Obj)} {σ : St} {H:Hp} {s:Shared} {a:Addr} {kvs:List (Key × V)} {k:Key} {u:Value} {A:Around} {E:Value->Shared->Prop}
theorem d_pop {v:V} {more:List Value} {Q:Value->Shared->Prop} (I:Inv X pins σ H s) (e:H a=some (.dK kvs)) (ry:bU (kV k) u) (l:eE kvs k=some v) (hm:more=[]\/∃ x,more=[x])
  (h:∀ w' s',Inv X pins σ (upd H a (.dK (gB kvs k))) s'->bU v w'->Q w' s'):wpAny (model X.prog X.w) A (call (.builtin "dict.pop") (.ref a::u::more)) Q E s:=by
 obtain⟨z,hd,vs,rel,dd⟩:=vU I.hok e
 obtain⟨w',hw,rw'⟩:=lH.some_of (v:=v) (o:=valueAt vs k) (by rw[<- l]; exact rel.val k)
 have hp:(keyPart u).isSome=true:=by
  cases k with
  | inl i=>obtain⟨t,q⟩:=(show ∃ t,u=Value.int i t from ry); subst q; rfl
  | inr x=>obtain⟨t,q⟩:=(show ∃ t,u=Value.str x t from ry); subst q; rfl
 have ha:argsOk "dict.pop" ⟨.ref a::u::more,[]⟩:=by
  rcases hm with q | ⟨x,q⟩
  ·subst q; exact PySem.F.args_dict_pop_2 _ _
  ·subst q; exact PySem.F.args_dict_pop_3 _ _ _
 refine call_meetsIn PySem.F.slot_dict_pop dd.typeIs PySem.F.entry_dict_pop ha (meets_dict_pop_there (cE X.prog X.w) a (vL ry) more hm hp)
  ⟨vs,w',dd,by rw[<- rel.length]; exact z,hw,fun h' dd' hs=>h w' _ ?_ rw'⟩
 have he:∃ q,h'.get? a=some q:=let ⟨q,_,_,hq,_⟩:=dd'; ⟨q,hq⟩
 exact x9 I (by rw[e]; exact True.intro) hs he (EM (Nat.le_trans (EL kvs k) z) hd (rel.drop k) dd')
end
noncomputable def NoSl (i:Expr):Prop:=∀ ov iv,subscripted i false ov iv=operate [ov,iv] (getItem ov iv)
theorem Ep {prog:Program} {w:World} {A:Around} {E:Value->Shared->Prop} {s:Shared} {env:Env} {value slice:Expr} {pos:Pos} {T id:String} {Q:Value->Shared->Prop}
  (hl:typeLookup (.type T) "__getitem__" = pure (some (.builtin id))) (hs:NoSl slice)
  (h:wpAny (model prog w) A (eval value env) (fun o s₁=>wpAny (model prog w) A (eval slice env) (fun i s₂=>s₂.TypeIs o T/\wpAny (model prog w) A (getItem o i) Q E s₂) E s₁) E s) :
  wpAny (model prog w) A (eval (.Subscript value slice pos) env) Q E s:=by
 refine Subscript_ (wpAny_mono h (fun o s₁ h₁=>wpAny_mono h₁ (fun i s₂ h₂=>?_) fun _ _ x=>x) fun _ _ x=>x)
 obtain⟨hT,h₂⟩:=h₂
 unfold subscriptTail
 refine wpAny_bind ?_
 rw[getitemInPython_of_ne hT.not_modules]
 refine wpAny_bind (wpAny_specialOf hT hl ?_)
 have fin:wpAny (model prog w) A (subscripted slice false o i) (fun r s₃=>wpAny (model prog w) A (letTemporaryGo value o r >>= fun _=>pure r) Q E s₃) E s₂:=by
  rw[hs o i]
  exact wpAny_operating (wpAny_mono h₂ (fun r s₃ h₃=>wpAny_bind (wpAny_letTemporaryGo (wpAny_pure h₃))) fun _ _ x=>x)
 first
  | exact wpAny_pure (wpAny_bind fin)
  | exact wpAny_bind (wpAny_pure (wpAny_bind fin))
  | exact wpAny_bind fin
theorem zV {X:Cx} {pins:List (Addr × Obj)} {σ : St} {H:Hp} {s:Shared} {a:Addr} {y:V} {o:Option V} (I:Inv X pins σ H s) (g:eO H a y o):s.TypeIs (.ref a) "dict":=by
 rcases g with ⟨kvs,k,e,_,_⟩ | ⟨kvs,k,b,e,_,_,_⟩
 ·obtain⟨_,_,vs,_,dd⟩:=zU I.hok e
  exact dd.typeIs
 ·obtain⟨_,_,xs,_,dd⟩:=zQ I.hok e
  exact dd.typeIs
noncomputable def tDGet (td ty:TE):TE:=fun σ H Q=>td σ H fun x H1=>ty σ H1 fun y H2=>∃ a v,x = .ref a/\eO H2 a y (some v)/\Q v H2
noncomputable def tDIn (ty td:TE):TE:=fun σ H Q=>ty σ H fun y H1=>td σ H1 fun x H2=>∃ a o,x = .ref a/\eO H2 a y o/\Q (.bl o.isSome) H2
noncomputable def Eo (ty td:TE):TE:=fun σ H Q=>ty σ H fun y H1=>td σ H1 fun x H2=>∃ a o,x = .ref a/\eO H2 a y o/\Q (.bl (!o.isSome)) H2
noncomputable def sDPut (td ty tv:TE):TS:=fun D σ H=>tv σ H fun v H1=>td σ H1 fun x H2=>ty σ H2 fun y H3=>∃ a H4,x = .ref a/\tZ H3 a y v H4/\D.nx σ H4
section
variable {X:Cx} {o i e value:Expr} {pos pos' tpos:Pos} {td ty tv:TE}
theorem nU (hu:X.A.units+1<cLine) (ho:PE X o td) (hi:PE X i ty) (hs:NoSl i):PE X (.Subscript o i pos) (tDGet td ty):=by
 intro pins s σ H Q I h
 refine Ep PySem.F.slot_dict_getitem.lookup hs (thn (ho pins s σ H _ I h) fun u s1 ⟨x,H1,I1,rx,q1⟩=>thn (hi pins s1 σ H1 _ I1 q1) fun iv s2 zQq=>?_)
 obtain⟨y,H2,I2,ry,a,v,ex,g,q2⟩:=zQq
 subst ex
 obtain rfl:u=Value.ref a:=rx
 exact⟨zV I2 g,Co hu I2 g ry fun w' s3 I3 rw'=>⟨v,H2,I3,rw',q2⟩⟩
theorem Dc (hu:X.A.units+1<cLine) (hi:PE X i ty) (ho:PE X o td):PC X .In i o (tDIn ty td):=by
 intro pins s σ H Q I h
 refine thn (hi pins s σ H _ I h) fun iv s1 ⟨y,H1,I1,ry,q1⟩=>thn (ho pins s1 σ H1 _ I1 q1) fun u s2 zQq=>?_
 obtain⟨x,H2,I2,rx,a,ov,ex,g,q2⟩:=zQq
 subst ex
 obtain rfl:u=Value.ref a:=rx
 exact d_in hu I2 g ry fun s3 I3=>⟨.bl ov.isSome,H2,I3,rfl,q2⟩
theorem pK (hu:X.A.units+1<cLine) (hi:PE X i ty) (ho:PE X o td):PC X .NotIn i o (Eo ty td):=by
 intro pins s σ H Q I h
 refine thn (hi pins s σ H _ I h) fun iv s1 ⟨y,H1,I1,ry,q1⟩=>thn (ho pins s1 σ H1 _ I1 q1) fun u s2 zQq=>?_
 obtain⟨x,H2,I2,rx,a,ov,ex,g,q2⟩:=zQq
 subst ex
 obtain rfl:u=Value.ref a:=rx
 exact Fb hu I2 g ry fun s3 I3=>⟨.bl (!ov.isSome),H2,I3,rfl,q2⟩
theorem jX (hu:X.A.units+1<cLine) (ho:PE X o td) (hi:PE X i ty) (hv:PE X value tv) (hs:swapsWith value (some (.Subscript o i pos')) pos.line X.env=pure false) :
  PS X (.Assign [.Subscript o i pos'] value pos) (sDPut td ty tv):=by
 intro pins s σ H D I h
 refine wpAny_Assign_Subscript (thn (hv pins s σ H _ I h) fun r s1 ⟨v,H1,I1,rv,q1⟩=>thn (ho pins s1 σ H1 _ I1 q1) fun u s2 ⟨x,H2,I2,rx,q2⟩=>thn (hi pins s2 σ H2 _ I2 q2) fun iv s3 zQq=>?_) hs
 obtain⟨y,H3,I3,ry,a,H4,ex,g,q3⟩:=zQq
 subst ex
 obtain rfl:u=Value.ref a:=rx
 exact Cn hu I3 g ry rv fun s4 I4=>⟨σ,H4,I4,q3⟩
end
theorem EN {P:Program} {w:World} {H:Hp} (h:Heap) (hb:sysModules<h.objs.size):dI P w H (h.push { cls:=.type "dict",data:=.dict #[] }) h.objs.size (.dK []):=
 ⟨Nat.zero_le _,beq_eq_false_iff_ne.mpr (Ne.symm (Nat.ne_of_lt hb)),[],.nil,Heap.DictOf.new h⟩
noncomputable def F1:TE:=fun _ H Q=>∀ p,H p=none->Q (.ref p) (upd H p (.dK []))
section
variable {X:Cx} {pos:Pos}
theorem sJ:PE X (.Dict [] [] pos) F1:=fun pins s σ H Q I h=>
 wpAny_Dict_empty ⟨.ref s.heap.objs.size,_,I.laid (a:=s.heap.objs.size) (o:=.dK []) (t':=s.toks) (fun _ _ q=>Heap.get?_push_of_some _ q) (Nat.le_refl _) (EN s.heap I.big),rfl,h _ (I.hok.fresh (Nat.le_refl _))⟩
end
section
variable {X:Cx} {pins:List (Addr × Obj)} {σ : St} {H:Hp} {s:Shared} {a:Addr} {y d:V} {u r:Value} {o:Option V} {A:Around} {E:Value->Shared->Prop}
end
section
variable {X:Cx} {o e f:Expr} {apos cpos:Pos} {td ty tx:TE}
end
section
variable {X:Cx} {pins:List (Addr × Obj)} {σ : St} {H:Hp} {s:Shared} {a:Addr} {kvs:List (Key × V)} {A:Around} {E:Value->Shared->Prop}
end
section
variable {X:Cx} {pins:List (Addr × Obj)} {σ : St} {H:Hp} {s:Shared} {a:Addr} {y:V} {u:Value} {A:Around} {E:Value->Shared->Prop}
end
end L2
namespace Att
open PySem PySem.W PySem.Calls PyProof.Rows
theorem qJ {P:Params} {h:Heap}:∀ (ns:List Int) (vs:List Value),WellAll P h vs (ns.map WData.int)->IntsAre vs ns:=by
 intro ns
 induction ns with
 | nil=>
  intro vs w
  rw[List.map_nil]at w
  cases w
  exact .nil
 | cons n ns ih=>
  intro vs w
  rw[List.map_cons]at w
  cases w with
  | cons a b=>
   cases a
   exact .cons _ _ (ih _ b)
theorem B7 {l:OpenLaw} {n:Nat} (hn:l.most=some n) {P:Params} {h:Heap} {args:List WData} {vals:List Value}
  (hpre:l.row.toRowW.claim.pre args=true) (hwl:WellAll P h vals args) :
  ∃ a vs ns,vals=[Value.ref a]/\args=[WData.list (ns.map WData.int)]/\h.get? a=some { cls:=.type "list",data:=.seq vs.toArray }/\IntsAre vs ns/\ns.length<=n:=by
 have hsh:WShape.hasAll [] args [.list .int]=true:=(pre_splitW hpre).1
 have hc:l.pre.holds [] { args:=args }=true:=(pre_splitW hpre).2
 obtain⟨d,r,rfl,h1,h2⟩:=hasAllW_cons hsh
 obtain rfl:=hasAllW_nil h2
 obtain⟨xs,rfl,h3⟩:=hasW_list h1
 obtain⟨ns,rfl⟩:=items_int h3
 have hlen:ns.length<=n:=by
  unfold OpenLaw.pre at hc
  have h4:(WTm.not (.lt (.lit (.int (n:Int))) (.len (.arg 0)))).holds [] { args:=[.list (ns.map .int)] }=true:=by
   have h4:=(holds_andW hc).1
   rw[hn]at h4
   exact h4
  have h5:=condW_of h4 (w_not (w_lt w_lit (w_len_list (w_arg rfl))))
  rw[List.length_map]at h5
  refine Nat.le_of_not_lt fun q=>?_
  have q':(n:Int)<((ns.length:Nat):Int):=by omega
  first
   | (rw[decide_eq_true q']at h5; exact absurd h5 (by decide))
   | (simp at h5; omega)
 cases hwl with
 | cons w1 w2=>
  cases w2
  cases w1 with
  | list ho hall=>exact⟨_,_,ns,rfl,rfl,ho,qJ ns _ hall,hlen⟩
theorem CA (l:OpenLaw) (args:List WData):l.row.toRowW.claim.post args (.bool true) args=true:=
 postW_of (r:=l.row.toRowW) (X:=(true == true))
  (show WShape.has [] (.bool true) .bool=true by first | rfl | decide | simp [WShape.has,WShape.arms,WShape.armsAll])
  (show (WTm.eq .res (.lit (.bool true))).value [] { args:=args,res:=some (.bool true),after:=args }=some (.bool (true == true)) from w_eq_bool (w_res rfl) w_lit) rfl
theorem AE {l:OpenLaw} {n:Nat} {q:Program} {loose:List Str} {XP:(Str->Option Value)->Heap->Prop} {YP:World->Heap->Prop} {d:DefRec}
  (hn:l.most=some n) (hdf:d.params.defaults=[])
  (call:∀ (w:World) (s₀ s₁ : Shared) (mg mb:Str->Option Value) (fa:Addr) (o:Obj) (pm cd doc:Value) (a:Addr) (vs:List Value) (ns:List Int),
   Ground q loose [] XP w s₀ mg mb s₁.heap->YP w s₁.heap->
   s₁.heap.get? fa=some o->o.data = .func (docDef d.name d.params d.body d.scope pm cd doc)->s₁.heap.CodeRec cd d.name->mg d.name=some (.ref fa)->
   s₁.heap.get? a=some { cls:=.type "list",data:=.seq vs.toArray }->IntsAre vs ns->ns.length<=n->s₁.gens = #[]->
   codeAny (model l.prog w) callerA (.call (.ref fa) ⟨[.ref a],[]⟩) (fun r s'=>r = .ok (.ret (.bool true))/\OldK s₁.heap s'.heap/\s'.os=s₁.os/\AllBare s'.gens) s₁) :
  WalkO q loose XP YP l.row.toRowW d [] (fun f vs=>PySem.call f vs):=by
 intro w s₀ s₁ mg mb G Y fa o pm cd doc dV kV ho hd hcd hD hmg hg args vals as hpre hlay hrd hwl hlo
 obtain rfl:dV = .none:=Dflts.none hD hdf
 obtain rfl:kV = .none:=Dflts.noKw hD
 obtain⟨a,vs,ns,rfl,rfl,hobj,hints,hlen⟩:=B7 hn hpre hwl
 refine enter_call (codeAny_mono (call w s₀ s₁ mg mb fa o pm cd doc a vs ns G Y ho (fd_plain hd) hcd hmg hobj hints hlen hg) fun r s' hq=>?_)
 obtain⟨rfl,h2,h3,h4⟩:=hq
 exact⟨.inl ⟨.bool true,.bool true,[],rfl,fun _=>rfl,.bool true,CA l _,fun _=>⟨List.Pairwise.nil,fun _ hm=>(nomatch hm)⟩⟩,h2,h3,h4⟩
section
variable {prog:Program} {w:World} {A:Around} {E:Value->Shared->Prop} {s:Shared} {K:Frag}
end
end Att
namespace L2
open PySem PySem.Spec PyProof.Rows
theorem iT:∀ {vs:List Value} {ns:List Int},IntsAre vs ns->bQ (ns.map V.int) vs
 | _,_,.nil=>.nil
 | _,_,.cons n t h=>.cons ⟨t,rfl⟩ (iT h)
noncomputable def Go (H:Hp):Prop:=∀ b,H b=none\/∃ o xs,H b=some (.frz o (.lst xs))
theorem Ds {P:Program} {w:World} {K:PySem.W.Frag} {mg mb:Str->Option Value} {CX:CXT} {k:Nat} {fa a:Addr} {fd:FuncData} {x:Str} {sp:Sp} {s₁ : Shared} {vs:List Value} {ns:List Int}
  (KX:K.In s₁.heap) (hns:s₁.heap.Ns mainGlobals mg) (hb:s₁.heap.Ns builtinsNs mb) (hbb:∀ x:Str,x ≠ "__name__"->mb x=bootBuiltins x) (hlim:s₁.heap.NoLimit) (hg:s₁.gens = #[])
  (ha:s₁.heap.get? a=some { cls:=.type "list",data:=.seq vs.toArray }) (hi:IntsAre vs ns) (hl:ns.length<=sizeLine) (hr:Room k callerA)
  (F:∀ base:Heap,K.In base->base.Ns mainGlobals mg->FnOk P w K mg base CX k fa fd [x] sp) (hbind:∀ (s:Shared) (u:Value),BindsTo s fd ⟨[u],[]⟩ [(x,u)])
  (hsp:∀ H:Hp,Go H->SqL K H a (ns.map V.int)->sp [.ref a] H (fun v _=>v = .bl true) fun _ _ _=>False)
  (hCX:∀ H e s',CX [] H s₁ (fun _ _ _=>False) e s'->False) :
  codeAny (model P w) callerA (.call (.ref fa) ⟨[.ref a],[]⟩) (fun r s'=>r = .ok (.ret (.bool true))/\OldK s₁.heap s'.heap/\s'.os=s₁.os/\AllBare s'.gens) s₁:=by
 have rv:=iT hi
 have lenV:=hi.length
 -- from an abstract heap in which nothing but the script may be tracked
 have core:∀ H:Hp,Go H->SqL K H a (ns.map V.int)->HOk P w H s₁.heap->(∀ b,H b≠none->b=a)->(H a≠none->K.lookup a=none)->
   codeAny (model P w) callerA (.call (.ref fa) ⟨[.ref a],[]⟩) (fun r s'=>r = .ok (.ret (.bool true))/\OldK s₁.heap s'.heap/\s'.os=s₁.os/\AllBare s'.gens) s₁:=by
  intro H hO hS hok hA hK
  have base_of:∀ {b:Addr} {o:Obj},s₁.heap.get? b=some o->H b=none->(xW s₁.heap H).get? b=some o:=fun e n=>D0 e n
  have noA:∀ {b:Addr} {o:Obj} {es:Array DictEntry} {ep:Nat},s₁.heap.get? b=some o->o.data = .dict es ep->H b=none:=fun {b o es ep} e d=>by
   cases q:H b with
   | none=>rfl
   | some u=>
    have e':b=a:=hA b (by rw[q]; simp)
    subst e'
    rw[ha]at e; cases e
    have d':Data.seq vs.toArray _=Data.dict es ep:=d
    cases d'
  have nsK:∀ {b:Addr} {m:Str->Option Value},s₁.heap.Ns b m->(xW s₁.heap H).Ns b m:=fun {b m} ⟨o,es,ep,e,d,r⟩=>⟨o,es,ep,base_of e (noA e d),d,r⟩
  have hKb:K.In (xW s₁.heap H):=fun b o e=>base_of (KX b o e) (by
   cases q:H b with
   | none=>rfl
   | some u=>
    have e':b=a:=hA b (by rw[q]; simp)
    subst e'
    rw[hK (by rw[q]; simp)]at e; cases e)
  have hM:Mod K mg (xW s₁.heap H):=⟨hKb,nsK hns,⟨mb,nsK hb,hbb⟩,let ⟨mc,h1,h2⟩:=hlim; ⟨mc,nsK h1,h2⟩⟩
  have e0:Env0 P w K mg (xW s₁.heap H) callerA [] s₁ H:=⟨rfl,hM,fun b o e=>FP e,Nat.le_of_eq (Cd _ _),trivial,fun b hb=>absurd (show b∈([]:List Addr) from hb) (by simp),hok,.of_eq hg⟩
  refine codeAny_mono ((F _ hKb (nsK hns)).run callerA [] s₁ H ⟨[.ref a],[]⟩ [.ref a] [.ref a] _ _ hr e0 (hbind s₁ (.ref a)) (.cons rfl .nil) (hsp H hO hS)) fun r s' h=>?_
  cases r with
  | error e=>exact(hCX H e s' h).elim
  | ok fl=>
   cases fl with
   | next=>exact False.elim h
   | brk=>exact False.elim h
   | cont=>exact False.elim h
   | ret u=>
    obtain⟨v,H',os,bare,un,hok',r',q⟩:=h
    have q':v = .bl true:=q
    subst q'
    obtain rfl:u=Value.bool true:=r'
    refine⟨rfl,OldK.of_keep fun b o e=>?_,os,bare⟩
    cases q:H b with
    | none=>exact un.keep b o e q (by intro z; exact absurd (show b∈([]:List Addr) from z) (by simp)) (by simp)
    | some u=>
     rcases hO b with z | ⟨ob,xs,z⟩
     ·rw[q]at z; cases z
     ·have z2:=un.frzs b ob _ z
      obtain⟨e1,_⟩:=hok b _ z
      obtain⟨e2,_⟩:=hok' b _ z2
      rw[e]at e1; cases e1
      exact e2
 cases hk:K.lookup a with
 | some o=>
  -- the script is one of the module's own objects
  have e:=KX a o hk
  rw[ha]at e
  cases e
  refine core (fun _=>none) (fun _=>.inl rfl) (.inr ⟨_,vs.toArray,_,hk,rfl,rfl,rfl,by rw[List.size_toArray,lenV]; exact hl,by simpa using rv⟩) (fun b u z=>by have z':(none:Option HO)=some u:=z; cases z') (fun b z=>absurd rfl z) fun z=>absurd rfl z
 | none=>
  refine core (fun b=>if b=a then some (.frz { cls:=.type "list",data:=.seq vs.toArray } (.lst (ns.map V.int))) else none) (fun b=>?_) (.inl (.inr ⟨{ cls:=.type "list",data:=.seq vs.toArray },if_pos rfl⟩)) (fun b u z=>?_) (fun b z=>?_) fun _=>hk
  ·by_cases hb:b=a
   ·exact .inr ⟨_,_,if_pos hb⟩
   ·exact .inl (if_neg hb)
  ·by_cases hb:b=a
   ·have z':=(if_pos hb).symm.trans z
    cases z'
    subst hb
    exact⟨ha,by rw[List.length_map]; exact hl,vs,_,rv,ha⟩
   ·have z':=(if_neg hb).symm.trans z
    cases z'
  ·by_cases hb:b=a
   ·exact hb
   ·exact absurd (if_neg hb) z
end L2
namespace L2
open PySem PySem.Spec PyProof.Rows
theorem Em {l:PySem.W.OpenLaw} {n k:Nat} {q:Program} {loose:List Str} {XP:(Str->Option Value)->Heap->Prop} {YP:World->Heap->Prop} {d:DefRec} {K:Params->PySem.W.Frag} {CX:World->CXT} {sp:World->Sp} {x:Str}
  (hn:l.most=some n) (hn2:n<=sizeLine) (hdf:d.params.defaults=[]) (hr:Room k callerA)
  (hY:∀ (w:World) (h:Heap),YP w h->(K w.params).In h)
  (F:∀ (w:World) (mg:Str->Option Value) (fa:Addr) (h:Heap),(K w.params).In h->h.Ns mainGlobals mg->mg d.name=some (.ref fa)->
   ∃ fd:FuncData,(∀ (s:Shared) (u:Value),BindsTo s fd ⟨[u],[]⟩ [(x,u)])/\
    ∀ base:Heap,(K w.params).In base->base.Ns mainGlobals mg->FnOk l.prog w (K w.params) mg base (CX w) k fa fd [x] (sp w))
  (hsp:∀ (w:World) (H:Hp) (a:Addr) (ns:List Int),ns.length<=n->Go H->SqL (K w.params) H a (ns.map V.int)->sp w [.ref a] H (fun v _=>v = .bl true) fun _ _ _=>False)
  (hCX:∀ (w:World) (H:Hp) (s:Shared) (e:Value) (s':Shared),CX w [] H s (fun _ _ _=>False) e s'->False) :
  PySem.W.WalkO q loose XP YP l.row.toRowW d [] (fun f vs=>PySem.call f vs):=by
 refine Att.AE hn hdf fun w s₀ s₁ mg mb fa o pm cd doc a vs ns G Y ho hd hcd hmg hobj hints hlen hg=>?_
 have KX:=hY w _ Y
 obtain⟨fd,hb,hF⟩:=F w mg fa _ KX G.T.g hmg
 exact Ds KX G.T.g G.T.b G.T.builtins G.T.nolimit hg hobj hints (Nat.le_trans hlen hn2) hr hF hb (fun H hO hS=>hsp w H a ns hlen hO hS) fun H e s'=>hCX w H s₁ e s'
end L2
namespace L2
open PySem PySem.Spec PyProof.Rows
noncomputable def bI (s:Stmt) (j:Nat):Stmt:=match s with
 | .ClassDef _ _ _ body _ _ _ _ _ _ _=>body.getD j (.Pass ⟨0,0,0,0⟩)
 | _=>.Pass ⟨0,0,0,0⟩
noncomputable def fU (s:Stmt):Arguments:=match s with
 | .FunctionDef _ a _ _ _ _ _ _ _ _=>a
 | _=>{ posonlyargs:=[],args:=[],vararg:=none,kwonlyargs:=[],kw_defaults:=[],kwarg:=none,defaults:=[] }
noncomputable def fD (s:Stmt):List Stmt:=match s with
 | .FunctionDef _ _ b _ _ _ _ _ _ _=>b
 | _=>[]
noncomputable def aH (s:Stmt):Scope:=match s with
 | .FunctionDef _ _ _ _ _ _ sc _ _ _=>sc
 | _=>{ kind:=.function,names:=[],isGenerator:=false,isCoroutine:=false }
noncomputable abbrev E0:XK:=fun _ _ _=>False
structure Fun (K:PySem.W.Frag) (x qual:Str) (st:Stmt) (f:Addr) (fd:FuncData):Prop where
 ex:∃ (oc:Value) (od:Option Addr) (kV doc pm:Value) (an:Option Addr) (cdv ct:Value) (osl:Array (Option Value)),
  fd=PySem.W.fnOf x qual (fU st) (fD st) (aH st) .none kV doc pm an cdv ct/\K.lookup f=some ⟨oc,od,.func fd,osl⟩/\PySem.W.codeIn K cdv qual=true
 kp:PySem.W.keepIn K (.ref f)=true
section
variable {P:Program} {w:World} {K:PySem.W.Frag} {mg:Str->Option Value} {base:Heap}
theorem Fun.binds {x qual:Str} {st:Stmt} {f:Addr} {fd:FuncData} {ps:List Str} (F:Fun K x qual st f fd)
  (h:∀ (kV doc pm:Value) (an:Option Addr) (cdv ct:Value) (us:List Value),us.length=ps.length->bindArgs (PySem.W.fnOf x qual (fU st) (fD st) (aH st) .none kV doc pm an cdv ct) ⟨us,[]⟩=pure (ps.zip us)):jB K fd ps []:=by
 obtain⟨oc,od,kV,doc,pm,an,cdv,ct,osl,rfl,lk,hcd⟩:=F.ex
 exact .all (h kV doc pm an cdv ct)
theorem A8 {x qual:Str} {st:Stmt} {f:Addr} {oc:Value} {od an:Option Addr} {osl:Array (Option Value)} {kV doc pm cdv ct:Value} (l:K.lookup f=some ⟨oc,od,.func (PySem.W.fnOf x qual (fU st) (fD st) (aH st) .none kV doc pm an cdv ct),osl⟩)
  (c:PySem.W.codeIn K cdv qual=true) (k:PySem.W.keepIn K (.ref f)=true):Fun K x qual st f (PySem.W.fnOf x qual (fU st) (fD st) (aH st) .none kV doc pm an cdv ct):=⟨⟨oc,od,kV,doc,pm,an,cdv,ct,osl,rfl,l,c⟩,k⟩
end
section
variable {X:Cx}
theorem pv (i:Nat) {x:Str} {pos:Pos} (hN:X.N[i]? = some x:=by rfl) (hv:Vis X.env.scope x:=by first | exact Or.inl rfl | exact Or.inr (Or.inl rfl) | exact Or.inr (Or.inr rfl)) (hd:(x == ("__debug__" : Str))=false:=by decide)
  (hcd:(x == ("__classdict__" : Str))=false:=by decide):PE X (.Name x pos) (gH i):=GJ hN hv hd hcd
end
theorem aV {A B:Prop} (h:B):if false=true then A else B:=by
 rw[if_neg Bool.false_ne_true]
 exact h
theorem aT {A B:Prop} (h:A):if true=true then A else B:=by
 rw[if_pos rfl]
 exact h
noncomputable def aF (H H':Hp):Prop:=∀ b o,H b=some o->H' b=some o
theorem aF.refl (H:Hp):aF H H:=fun _ _ h=>h
theorem aF.trans {H H1 H2:Hp} (a:aF H H1) (b:aF H1 H2):aF H H2:=fun c o h=>b c o (a c o h)
theorem aF.free {H H':Hp} (e:aF H H') {l:Addr} (h:H' l=Option.none):H l=Option.none:=by
 cases q:H l with
 | none=>rfl
 | some o=>
  rw[e l o q]at h
  cases h
theorem aF.seq {K:PySem.W.Frag} {H H':Hp} {a:Addr} {xs:List V} (e:aF H H') (h:SqL K H a xs):SqL K H' a xs:=by
 rcases h with (h | ⟨o,h⟩) | h
 ·exact .inl (.inl (e _ _ h))
 ·exact .inl (.inr ⟨o,e _ _ h⟩)
 ·exact .inr h
section
variable {κ : Type} [DecidableEq κ]
theorem vS {p:κ × V} {r:List (κ × V)} {k:κ} (e:p.1=k):gB (p::r) k=gB r k:=by
 unfold gB
 rw[List.filter_cons,if_neg (by simp [e])]
theorem vT {p:κ × V} {r:List (κ × V)} {k:κ} (e:¬ p.1=k):gB (p::r) k=p::gB r k:=by
 unfold gB
 rw[List.filter_cons,if_pos (by simp [e])]
end
end L2
end
section
namespace L2
open PySem PySem.Spec PyProof.Rows
noncomputable def Gq (B:Heap) (l:List Env) (e:Addr) (cls a0 fl:Value) (h:Heap):Prop:=B.StaysIn h/\B.get? e=none/\h.FunFrames B l/\h.TracedAtW B e cls a0 fl
structure Fly (P:Program) (w:World) (l:List Env) (H H':Hp) (s s':Shared) (e:Addr) (cls fl:Value):Prop where
 os:s'.os=s.os
 bare:AllBare s'.gens
 fr:∀ b o,s.heap.get? b=some o->H b=none->H' b=none
 tups:∀ b xs,H b=some (.tup xs)->H' b=some (.tup xs)
 frzs:∀ b o u,H b=some (.frz o u)->H' b=some (.frz o u)
 tbls:∀ b ps,H b=some (.tbl ps)->∃ more,H' b=some (.tbl (ps++more))
 sl:∀ b o,s.heap.get? b=some o->b∈frs l->∃ sl,s'.heap.get? b=some { o with slots:=sl }
 fly:∃ B a0,Gq B l e cls a0 fl s'.heap/\HOk P w H' B/\(∀ b o,s.heap.get? b=some o->H b=none->b ∉ frs l->B.get? b=some o)/\∀ b o,s.heap.get? b=some o->b ∉ frs l->∃ o',B.get? b=some o'
section
variable {P:Program} {w:World} {l:List Env} {H H':Hp} {s s':Shared} {e:Addr} {cls fl:Value}
theorem Es {h h':Heap} {B:Heap} {l:List Env} (fl:h.FunFrames B l) (u:h.UpToSlots h') {b:Addr} {o:Obj} {sl:Array (Option Value)} (hb:b∈frs l) (e:h.get? b=some { o with slots:=sl }):∃ sl',h'.get? b=some { o with slots:=sl' }:=by
 obtain⟨_,o',ho,hd⟩:=fl.mem hb
 rw[e]at ho; cases ho
 obtain⟨sl',z⟩:=u b _ e hd
 exact⟨sl',z⟩
theorem Fly.go (F:Fly P w l H H' s s' e cls fl):∃ B a0,Gq B l e cls a0 fl s'.heap/\∀ h' fl',Gq B l e cls a0 fl' h'->s'.heap.UpToSlots h'->Fly P w l H H' s { s' with heap:=h' } e cls fl':=by
 obtain⟨B,a0,fl,hk,kp,th⟩:=F.fly
 refine⟨B,a0,fl,fun h' fl' f' up=>⟨F.os,F.bare,F.fr,F.tups,F.frzs,F.tbls,fun b o q hb=>?_,B,a0,f',hk,kp,th⟩⟩
 obtain⟨sl,z⟩:=F.sl b o q hb
 exact Es (o:=o) fl.2.2.1 up hb z
theorem Fly.drop {env:Env} {outer:List Env} {L:Addr} {H₀ : Hp} {s₀ : Shared} (F:Fly P w (env::outer) H H' s s' e cls fl) (hf:env.frame=some L)
  (hL:s₀.heap.objs.size<=L) (ho:s.os=s₀.os) (U:Un (frs outer) [] H₀ H s₀.heap s.heap) (hn:∀ b∈frs outer,H₀ b=none):Fly P w outer H₀ H' s₀ s' e cls fl:=by
 obtain⟨B,a0,⟨f1,f2,⟨_,_,f3⟩,f4⟩,hk,kp,th⟩:=F.fly
 have sub:∀ b,b∈frs (env::outer)->b=L\/b∈frs outer:=fun b hb=>by
  unfold frs at hb
  rw[List.filterMap_cons,hf]at hb
  exact List.mem_cons.mp hb
 have sup:∀ b,b∈frs outer->b∈frs (env::outer):=fun b hb=>by
  unfold frs
  rw[List.filterMap_cons,hf]
  exact List.mem_cons_of_mem _ hb
 have old:∀ b o,s₀.heap.get? b=some o->b ∉ frs outer->b ∉ frs (env::outer):=fun b o q hb z=>by
  rcases sub b z with rfl | z
  ·exact absurd (Nat.lt_of_lt_of_le (Heap.lt_size q) hL) (Nat.lt_irrefl _)
  ·exact hb z
 have nx:∀ b,b ∉ ([]:List Addr):=fun b=>by simp
 refine⟨F.os.trans ho,F.bare,fun b o q n=>?_,fun b xs q=>F.tups b xs (U.tups b xs q),fun b o u q=>F.frzs b o u (U.frzs b o u q),fun b ps q=>?_,fun b o q hb=>?_,B,a0,⟨f1,f2,f3,f4⟩,hk,fun b o q n hb=>?_,fun b o q hb=>?_⟩
 ·obtain⟨o',z⟩:=U.there b o q (nx b)
  exact F.fr b o' z (U.free b o q n (nx b))
 ·obtain⟨m1,z1⟩:=U.tbls b ps q
  obtain⟨m2,z2⟩:=F.tbls b _ z1
  exact⟨m1++m2,by rw[z2,Array.append_assoc]⟩
 ·obtain⟨sl,z⟩:=U.slot b o q (hn b hb) hb (nx b)
  obtain⟨sl',z'⟩:=F.sl b _ z (sup b hb)
  exact⟨sl',z'⟩
 ·exact kp b o (U.keep b o q n hb (nx b)) (U.free b o q n (nx b)) (old b o q hb)
 ·obtain⟨o',z⟩:=U.there b o q (nx b)
  exact th b o' z (old b o q hb)
theorem Dz {P:Program} {w:World} {H:Hp} {h:Heap} {l:List Addr} (x:HOk P w H h) (hl:∀ b∈l,H b=none):HOk P w H (PySem.W.hideAll h l):=fun a o e=>
 (x a o e).stay (fun b u hb q=>PySem.W.hideAll_get _ q fun hm=>by
  have n:=hl b hm
  rcases hb with rfl | hb
  ·rw[e]at n; cases n
  ·rw[hb]at n; cases n) (fun _ q=>q) fun _ _ q=>q
section
variable {M:Model} {A:Around} {E:Value->Shared->Prop} {Q:Unit->Shared->Prop} {env:Env} {outer:List Env} {L:Addr}
theorem EE (F:Fly P w l H H' s s' e cls fl) (hQ:∀ h',Fly P w l H H' s { s' with heap:=h' } e cls .none->Q () { s' with heap:=h' }):wpAny M A (setFlight (.ref e) none) Q E s':=by
 obtain⟨B,a0,⟨f1,f2,f3,f4⟩,go⟩:=F.go
 exact wpAny_setFlight_noneW f1 f3 f4 fun h' k1 k2 k3 k4=>hQ h' (go h' _ ⟨k1,f2,k2,k3⟩ fun b o hb hn=>⟨o.slots,k4 b o hb hn⟩)
theorem EC (F:Fly P w l H H' s s' e cls fl) (hQ:∀ h',Fly P w l H H' s { s' with heap:=h' } e cls (rawInt L)->Q () { s' with heap:=h' }):wpAny M A (setFlight (.ref e) (some L)) Q E s':=by
 obtain⟨B,a0,⟨hkb,hen,hl,oe,vs,T,oT,ts,he,hcls,hd,h1,hnT,hTe,hT,hdT,h3⟩,go⟩:=F.go
 have hsz3:3<ts.size:=(Array.getElem?_eq_some_iff.mp h3).1
 have other:∀ b,b≠T->(s'.heap.update T (Obj.mapFields (·.setIfInBounds 3 ((some L).elim Value.none fun f=>rawInt f)))).get? b=s'.heap.get? b:=
  fun b hb=>Heap.get?_update_other _ _ (Ne.symm hb)
 have noRecord:∀ b o,s'.heap.get? b=some o->(∀ vs,o.data ≠ .fields vs)->b≠T:=fun b o hb hnf q=>by
  rw[q,hT]at hb; injection hb with hb; subst hb; exact hnf ts hdT
 unfold setFlight
 refine wpAny_bind (wpAny_field he hd h1 ?_)
 rw[if_pos (show (Value.ref T != Value.none)=true from by simp)]
 refine wpAny_setField hT hdT hsz3 (hQ _ (go _ _ ⟨fun b o hbo=>(other b fun q=>by rw[q,hnT]at hbo; cases hbo).trans (hkb b o hbo),hen,
  hl.of_keeps fun b o hb hnf=>⟨o,(other b (noRecord b o hb hnf)).trans hb,rfl⟩,?_⟩ fun b o hb hnf=>⟨o.slots,(other b (noRecord b o hb hnf)).trans hb⟩))
 exact⟨oe,vs,T,_,_,(other e (Ne.symm hTe)).trans he,hcls,hd,h1,hnT,hTe,Heap.get?_update_self _ hT (Obj.isFreed_of_fields (Obj.data_mapFields hdT _)),Obj.data_mapFields hdT _,by simp [hsz3]⟩
theorem ED (hfr:A.frames=some (env::outer)) (hf:env.frame=some L) (F:Fly P w (env::outer) H H' s s' e cls .none)
  (hQ:∀ h',Fly P w (env::outer) H H' s { s' with heap:=h' } e cls (rawInt L)->Q () { s' with heap:=h' }):wpAny M A (noteFrame (.ref e) env) Q E s':=by
 obtain⟨B,a0,⟨f1,f2,f3,f4⟩,go⟩:=F.go
 exact wpAny_noteFrame_onW hfr f3 hf f4 f1 f2 fun h' ⟨k1,k2,k3,k4⟩=>hQ h' (go h' _ ⟨k1,f2,k2,k3⟩ k4)
theorem Ch (hf:env.frame=some L) (F:Fly P w l H H' s s' e cls (rawInt L)) (hQ:Q () s'):wpAny M A (noteFrame (.ref e) env) Q E s':=by
 obtain⟨B,a0,⟨f1,f2,f3,f4⟩,go⟩:=F.go
 exact wpAny_noteFrame_againW hf f4 hQ
theorem A9 (F:Fly P w l H H' s s' e cls fl) {R:Value->Shared->Prop} (hQ:∀ T:Addr,R (.ref T) s'):wpAny M A (field (.ref e) 1) R E s':=by
 obtain⟨B,a0,⟨hkb,hen,hl,oe,vs,T,oT,ts,he,hcls,hd,h1,_⟩,_⟩:=F.go
 exact wpAny_field he hd h1 (hQ T)
end
end
noncomputable def CXE (P:Program) (w:World):CXT:=fun outer H s E e s'=>∃ (a:Addr) (cls:Value) (H':Hp),e = .ref a/\Fly P w outer H H' s s' a cls .none/\E cls none H'
noncomputable def AtX (X:Cx) (pins:List (Addr × Obj)) (σ : St) (H':Hp) (s':Shared) (e:Addr) (cls:Value):Prop:=
 (∃ s args,Inv X pins σ H' s/\Heap.MadeExcOf s.heap s'.heap e cls args/\s' = { s with heap:=s'.heap })\/
 ∃ H s fl,Inv X pins σ H s/\Fly X.prog X.w X.stack H H' s s' e cls fl/\(fl = .none\/fl=rawInt X.env.locals)
structure Own (X:Cx):Prop where
 stk:X.stack=X.env::X.outer
 fra:X.env.frame=some X.env.locals
 ex:X.ex=[]
section
variable {X:Cx} {pins:List (Addr × Obj)} {σ : St} {H':Hp} {s':Shared} {e:Addr} {cls:Value}
theorem CP {M:Model} {A:Around} {E:Value->Shared->Prop} {Q:Unit->Shared->Prop} (O:Own X) (hfr:A.frames=some X.stack) {s:Shared} {args:List Value} (I:Inv X pins σ H' s) (mk:Heap.MadeExcOf s.heap s'.heap e cls args) (es:s' = { s with heap:=s'.heap })
  (hQ:∀ h',Fly X.prog X.w X.stack H' H' s { s' with heap:=h' } e cls (rawInt X.env.locals)->Q () { s' with heap:=h' }):wpAny M A (noteFrame (.ref e) X.env) Q E s':=by
 have hst:=I.stack
 have hfree:=I.stkFree
 have hin:∀ env∈X.stack,∀ a,env.frame=some a->a∈frs X.stack:=fun env he a ha=>List.mem_filterMap.mpr ⟨env,he,ha⟩
 obtain⟨t,he,htn,ht⟩:=mk.there
 have FH:=PySem.W.funFrames_hide (as:=frs X.stack) hst hin
 have hen:(PySem.W.hideAll s.heap (frs X.stack)).get? e=none:=by
  cases q:(PySem.W.hideAll s.heap (frs X.stack)).get? e with
  | none=>rfl
  | some o=>have:=PySem.W.of_hideAll _ q; rw[mk.new]at this; cases this
 have os':s'.os=s.os:=by rw[es]
 have gs':s'.gens=s.gens:=by rw[es]
 unfold noteFrame
 simp only[O.fra]
 refine wpAny_bind (wpAny_field he rfl (x:=Value.none) rfl ?_)
 rw[if_neg (by decide)]
 have FH':s.heap.FunFrames (PySem.W.hideAll s.heap (frs X.stack)) (X.env::X.outer):=by
  have z:=O.stk
  rw[<- z]
  exact FH
 rw[O.stk]at hfr
 refine wpAny_entryW (base:=PySem.W.hideAll s.heap (frs X.stack)) (a0:=.ref t) hfr (FH'.of_keeps fun b o hb _=>⟨o,mk.keeps b o hb,rfl⟩) O.fra he (fun b o z=>mk.keeps b o (PySem.W.of_hideAll _ z)) hen rfl (by simp) rfl fun h2 hN=>?_
 obtain⟨k1,k2,k3,k4⟩:=hN
 refine hQ h2 ⟨os',by rw[gs']; exact I.bare,fun b o z n=>n,fun b xs q=>q,fun b o u q=>q,fun b ps q=>⟨#[],by rw[q]; simp⟩,fun b o z hb=>?_,_,_,⟨k1,hen,(by have z:=O.stk; rw[<- z]at k2; exact k2),k3⟩,Dz I.hok hfree,fun b o z n hb=>PySem.W.hideAll_get _ z hb,fun b o z hb=>⟨o,PySem.W.hideAll_get _ z hb⟩⟩
 obtain⟨_,o',ho,hd⟩:=hst.mem hb
 rw[z]at ho; cases ho
 exact k4 b _ (mk.keeps _ _ z) hd
theorem Bs {M:Model} {A:Around} {E:Value->Shared->Prop} {Q:Unit->Shared->Prop} (O:Own X) (hfr:A.frames=some X.stack) (F:AtX X pins σ H' s' e cls)
  (hQ:∀ H s h',Inv X pins σ H s->Fly X.prog X.w X.stack H H' s { s' with heap:=h' } e cls (rawInt X.env.locals)->Q () { s' with heap:=h' }):wpAny M A (noteFrame (.ref e) X.env) Q E s':=by
 rcases F with ⟨s,args,I,mk,es⟩ | ⟨H,s,fl,I,F,rfl | rfl⟩
 ·exact CP O hfr I mk es fun h' F=>hQ _ _ h' I F
 ·rw[O.stk]at hfr F
  exact ED hfr O.fra F fun h' F'=>hQ H s h' I (by rw[O.stk]; exact F')
 ·refine Ch O.fra F ?_
  have:=hQ H s s'.heap I F
  exact this
theorem Ee {M:Model} {A:Around} {E:Value->Shared->Prop} {Q:Unit->Shared->Prop} (O:Own X) (hfr:A.frames=some X.stack) (F:AtX X pins σ H' s' e cls)
  (hQ:∀ h',Fly X.prog X.w X.outer X.H₀ H' X.s₀ { s' with heap:=h' } e cls .none->Q () { s' with heap:=h' }):wpAny M A (leaving X.env (.ref e)) Q E s':=by
 unfold leaving
 refine wpAny_bind (Bs O hfr F fun H s h' I F'=>?_)
 refine EE F' fun h2 F2=>hQ h2 ?_
 rw[O.stk]at F2
 have U:=I.base
 rw[O.ex]at U
 exact F2.drop O.fra I.ok.above I.os U I.ok.frf
end
noncomputable abbrev XC:=Value->St->Hp->Prop
noncomputable def XP (X:Cx) (R:XC) (e:Value) (s':Shared):Prop:=∃ (pins:List (Addr × Obj)) (a:Addr) (cls:Value) (σ : St) (H':Hp),e = .ref a/\AtX X pins σ H' s' a cls/\R cls σ H'
section
variable {X:Cx} {R:XC}
theorem AtX.frames {pins:List (Addr × Obj)} {σ : St} {H':Hp} {s':Shared} {e:Addr} {cls:Value} (F:AtX X pins σ H' s' e cls):X.A.frames=some X.stack:=by
 rcases F with ⟨s,args,I,_⟩ | ⟨H,s,fl,I,_⟩
 ·exact I.ok.frames
 ·exact I.ok.frames
theorem Fu (O:Own X):PassesOwn (model X.prog X.w) X.A X.env (XP X R):=by
 rintro _ s' ⟨pins,a,cls,σ,H',rfl,F,q⟩
 refine Bs O F.frames F fun H s h' I F'=>?_
 unfold cameBackBy
 refine wpAny_bind (A9 F' fun T=>?_)
 rw[if_neg (show ¬ ((Value.ref T == Value.none)=true) from by simp)]
 rw[O.fra]
 exact EC F' fun h2 F2=>⟨pins,a,cls,σ,H',rfl,.inr ⟨H,s,_,I,F2,.inr rfl⟩,q⟩
end
end L2
end
section
namespace L2
open PySem PySem.Spec PyProof.Rows
noncomputable abbrev Cx.bod (X:Cx) (E:XK):Cx:=X.wish (XP X fun c _ H=>E c none H)
section
variable {X:Cx} {E E':XK}
theorem fM {P:Program} {w:World} {K:PySem.W.Frag} {mg:Str->Option Value} {base:Heap} {N:List Str} {qual:Str} {scope:Scope} {f:Addr} {cd:Value} {A:Around} {outer:List Env} {s:Shared} {H:Hp} {CX:CXT} :
  Own (BB CX P w K mg base N qual scope f cd A outer s H E):=⟨rfl,rfl,rfl⟩
theorem passB (hE:∀ c o H,E' c o H->E c none H):eU (CXE X.prog X.w) (X.bod E) E':=by
 intro pins σ H1 s1 e s' I ⟨a,cls,H',he,F,q⟩
 exact⟨pins,a,cls,σ,H',he,.inr ⟨H1,s1,.none,I.unwish,F,.inl rfl⟩,hE _ _ _ q⟩
theorem bK:eU (CXE X.prog X.w) (X.bod E) (fun c _ H=>E c none H):=passB fun _ _ _ q=>q
theorem aW {X:Cx} {P:Program} {w:World}:eU (CXE P w) X E0:=fun _ _ _ _ _ _ _ ⟨_,_,_,_,_,q⟩=>False.elim q
noncomputable def Ej (X:Cx) (E:Value->Hp->Prop):Prop:=∀ (pins:List (Addr × Obj)) (σ : St) (H:Hp) (s:Shared) (h':Heap) (e:Addr) (cls:Value) (args:List Value),Inv X pins σ H s->Heap.MadeExcOf s.heap h' e cls args->E cls H->X.xe (.ref e) { s with heap:=h' }
theorem eJ:Ej (X.bod E) (fun c H=>E c none H):=fun pins σ H s h' e cls args I mk q=>⟨pins,e,cls,σ,H,rfl,.inl ⟨s,args,I.unwish,mk,rfl⟩,q⟩
theorem qH (O:Own X):PassesOwn (model X.prog X.w) X.A X.env (X.bod E).xe:=Fu O
end
section
variable {P:Program} {w:World} {K:PySem.W.Frag} {mg:Str->Option Value} {base:Heap}
theorem PSs.leave {X:Cx} {E:XK} {st:List Stmt} {t:TS} (O:Own X) (hx:X.xe=fun e s'=>wpAny (model X.prog X.w) X.A (leaving X.env e) (fun _ s''=>CXE X.prog X.w X.outer X.H₀ X.s₀ E e s'') (fun e' s''=>CXE X.prog X.w X.outer X.H₀ X.s₀ E e' s'') s')
  (h:PSs (X.bod E) st t):PSs X st t:=fun pins s σ H D I hw=>
 wpAny_mono (h pins s σ H D (I.wish _) hw) (fun _ _ q=>q.unwish) fun e s' ⟨pins,a,cls,σ,H',he,F,q⟩=>by
  subst he
  rw[hx]
  exact Ee O F.frames F fun h' F'=>⟨a,cls,H',rfl,F',q⟩
theorem Fun.okX {x qual:Str} {st:Stmt} {f:Addr} {fd:FuncData} {N ps:List Str} {k:Nat} {sp:Sp} (F:Fun K x qual st f fd) (S:FnScope N ps (aH st)) (len:∀ vs H Q E,sp vs H Q E->vs.length=ps.length)
  (hbody:∀ (cdv:Value) (A:Around) (outer:List Env) (s:Shared) (H:Hp) (vs:List V) (Q:VK) (E:XK),Room k (A.deeper (envOfC qual (aH st) s.heap.objs.size f cdv))->sp vs H Q E->
   ∃ t,PSs ((BB (CXE P w) P w K mg base N qual (aH st) f cdv A outer s H E).bod E) (fD st) t/\t { nx:=fun _ H'=>Q .non H',rt:=Q } (pU N vs) H):FnOk P w K mg base (CXE P w) (k+1) f fd ps sp:=by
 obtain⟨oc,od,kV,doc,pm,an,cdv,ct,osl,rfl,lk,hcd⟩:=F.ex
 refine fn_of lk hcd S len fun A outer s H vs Q E hr hsp=>?_
 obtain⟨t,h,q⟩:=hbody cdv A outer s H vs Q E hr hsp
 exact⟨t,PSs.leave fM rfl h,q⟩
end
noncomputable def FQ (K:PySem.W.Frag) (N:Addr):Bool:=match K.lookup N with
 | some ⟨_,_,.dict es _,_⟩=>es.toList.all (fun e=>match e.key with | .str _ _=>true | _=>false) && (es.toList.find? (·.key.isStr "__init__")).isNone
 | _=>false
theorem BW {K:PySem.W.Frag} {h:Heap} {N:Addr} (X:K.In h) (e:FQ K N=true):∃ m,h.Ns N m/\m "__init__" = none:=by
 unfold FQ at e
 split at e
 ·rename_i c d es n sl q
  rw[Bool.and_eq_true]at e
  obtain⟨e1,e2⟩:=e
  refine⟨nsFind es,⟨_,es,n,X _ _ q,rfl,fun en hen=>?_,fun _=>rfl⟩,?_⟩
  ·have z:=List.all_eq_true.mp e1 en (by simpa using hen)
   split at z
   ·rename_i a b hk
    exact⟨a,b,hk⟩
   ·cases z
  ·unfold nsFind findBy
   rw[<- Array.find?_toList]
   cases q2:es.toList.find? (·.key.isStr "__init__") with
   | none=>rfl
   | some v=>rw[q2]at e2; cases e2
 ·cases e
noncomputable abbrev BI:List Value:=[.type "ValueError",.type "Exception",.type "BaseException",.type "object"]
noncomputable def rG (K:PySem.W.Frag):List Value->Bool
 | []=>false
 | v::tl=>(v::tl == BI) || (match v with
  | .ref a=>(match K.lookup a with | some ⟨_,_,.cls cd,_⟩=>FQ K cd.ns | _=>false) && rG K tl
  | _=>false)
theorem rF {K:PySem.W.Frag} {h:Heap} (X:K.In h):∀ {l:List Value},rG K l=true->OwnTail h BI l
 | [],e=>by
  unfold rG at e
  cases e
 | v::tl,e=>by
  unfold rG at e
  rw[Bool.or_eq_true]at e
  rcases e with e | e
  ·rw[beq_iff_eq.mp e]
   exact .base
  ·split at e
   ·rw[Bool.and_eq_true]at e
    obtain⟨e1,e2⟩:=e
    split at e1
    ·rename_i c d cd sl q
     obtain⟨m,hn,hi⟩:=BW X e1
     exact .own (X _ _ q) hn hi (rF X e2)
    ·cases e1
   ·cases e
noncomputable def cW (K:PySem.W.Frag) (C:Addr):Bool:=match K.lookup C with
 | some ⟨.type "type",_,.cls cd,sl⟩=>(match cd.mro,sl.toList with
  | .ref C'::bm,[_,_,_,_,some (.builtin n),_]=>C' == C && !cd.hasDel && n == "ValueError.__new__" && FQ K cd.ns && rG K bm
  | _,_=>false)
 | _=>false
theorem Ck {K:PySem.W.Frag} {h:Heap} {C:Addr} {x:Str} {mg:Str->Option Value} (X:K.In h) (hm:mg x=some (.ref C)) (q:cW K C=true):OwnCls x C BI "ValueError.__new__" mg h:=by
 unfold cW at q
 split at q
 ·rename_i dd cd sl ho
  split at q
  ·rename_i C' bm k0 k1 k2 k3 n k5 hmr hs
   simp only[Bool.and_eq_true,beq_iff_eq,Bool.not_eq_true']at q
   obtain⟨⟨⟨⟨rfl,hdel⟩,rfl⟩,hn⟩,ht⟩:=q
   obtain⟨m,hns,hni⟩:=BW X hn
   obtain⟨nm,bs,mro,ns,qn,hd,sn,sub,ab,col,del⟩:=cd
   dsimp only at hmr hdel hns
   subst hmr hdel
   have hsl:sl = #[k0,k1,k2,k3,some (.builtin "ValueError.__new__"),k5]:=by
    obtain⟨l⟩:=sl
    simp only at hs
    rw[hs]
   subst hsl
   exact⟨hm,bm,ns,nm,qn,bs,hd,sn,sub,ab,col,dd,k0,k1,k2,k3,k5,m,X _ _ ho,hns,hni,rF X ht⟩
  ·cases q
 ·cases q
noncomputable def C3 (C:Addr) (E:Value->Hp->Prop) (t:TA):TS:=fun _ σ H=>t σ H fun vs H1=>vs.length<=sizeLine/\E (.ref C) H1
theorem dC {X:Cx} {x:Str} {C:Addr} {np cpos pos:Pos} {e₀ : Expr} {rest:List Expr} {t:TA} {E:Value->Hp->Prop} (hR:Ej X E) (hc:X.calm=true) (hC:cW X.K C=true) (hg:Gl X x) (hm:X.mg x=some (.ref C)) (ha:PA X (e₀ :: rest) t)
  (he:starEach (e₀ :: rest) X.env=(false,eval e₀ X.env)::starEach rest X.env:=by rfl) (hpl:(backTo cpos (starEach rest X.env)).any (·.1)=false:=by rfl) (hd:(x == ("__debug__" : Str))=false:=by decide) :
  PS X (.Raise (some (.Call (.Name x np) (e₀ :: rest) [] cpos)) none pos) (C3 C E t):=by
 intro pins s σ H D I h
 have O:OwnCls x C BI "ValueError.__new__" X.mg X.base:=Ck I.mod.kin hm hC
 obtain⟨tl,N,nm,q,bs,hdct,sn,sub,ab,col,dd,k0,k1,k2,k3,k5,mN,hC',hN,hni,T⟩:=O.obj
 refine wpAny_Raise_call_subU (C:=C) (nm:=nm) (q:=q) (N:=N) (bs:=bs) (bm:=tl) (hdct:=hdct) (sn:=sn) (sub:=sub) (ab:=ab) (col:=col) (dd:=dd) (k0:=k0) (k1:=k1) (k2:=k2) (k3:=k3) (k5:=k5)
  PySem.F.excBase_ValueError (by decide) PySem.F.excBase_ValueError (mN:=mN) (T.hasType PySem.F.excBase_ValueError.hasBase) (I.ok.hd hc) (by rw[he]; show (false || (backTo cpos (starEach rest X.env)).any (·.1))=false; rw[hpl]; rfl) hni (nZ I hg hm ⟨rfl,?_⟩ hd)
 have ha':=ha cpos pins s σ H _ I h
 rw[he]at ha' ⊢
 refine Calls.evalArgs_plain (wpAny_mono ha' (fun vs s₂ z=>?_) fun _ _ y=>y)
 obtain⟨ws,H2,I2,r2,z,q2⟩:=z
 exact⟨rfl,by rw[<- r2.length]; exact z,I2.bk _ _ hC',hN.keeps I2.bk,T.keeps I2.bk,fun h' e mk=>hR pins σ H2 s₂ h' e _ _ I2 mk q2⟩
end L2
end
section
namespace L2
open PySem PySem.Spec PyProof.Rows
structure Callee (P:Program) (w:World) (K:PySem.W.Frag) (mg:Str->Option Value) (base:Heap) (x:Str) (k:Nat) (ps:List Str) (sp:Sp):Prop where
 ex:∃ f fd,FnOk P w K mg base (CXE P w) k f fd ps sp/\mg x=some (.ref f)/\PySem.W.keepIn K (.ref f)=true/\jB K fd ps []
structure Method (P:Program) (w:World) (K:PySem.W.Frag) (mg:Str->Option Value) (base:Heap) (C:Addr) (m:Str) (k:Nat) (ps:List Str) (sp:Sp):Prop where
 ex:∃ f fd,FnOk P w K mg base (CXE P w) k f fd ps sp/\Meth K C m f/\jB K fd ps []
structure Maker (P:Program) (w:World) (K:PySem.W.Frag) (mg:Str->Option Value) (base:Heap) (x:Str) (C:Addr) (k:Nat) (ps:List Str) (sp:Sp):Prop where
 ex:∃ f fd,FnOk P w K mg base (CXE P w) k f fd ps sp/\Mk K C f/\mg x=some (.ref C)/\jB K fd ps []
noncomputable def tFn (sp:Sp) (E:XK) (t:TA):TE:=fun σ H Q=>t σ H fun vs H1=>sp vs H1 Q E
noncomputable def tMe (C:Addr) (m:Str) (sp:Sp) (E:XK) (ta:TE) (t:TA):TE:=fun σ H Q=>ta σ H fun x H1=>∃ a dx fs,x = .ref a/\H1 a=some (.ins C dx fs)/\fs.lookup m=none/\t σ H1 fun vs H2=>sp (x::vs) H2 Q E
noncomputable def tMk (C:Addr) (sp:Sp) (E:XK) (t:TA):TE:=fun σ H Q=>t σ H fun vs H1=>∀ x dx,H1 x=none->H1 dx=none->dx≠x->
 sp (.ref x::vs) (upd (upd H1 dx (.own x)) x (.ins C dx [])) (fun v H2=>v = .non/\Q (.ref x) H2) E
section
variable {X:Cx} {k:Nat} {C:Addr} {ps:List Str} {sp:Sp} {E:XK} {x m:Str} {p pos apos:Pos} {e o:Expr} {es:List Expr} {ta:TE} {t:TA}
theorem Bz {st:St} {H:Hp} {Q:VK} (h:tFn sp E t st H Q):C6 sp [] E t st H Q:=by
 unfold C6
 unfold tFn at h
 have e:(fun vs H1=>sp (vs++[]) H1 Q E)=fun vs H1=>sp vs H1 Q E:=by
  funext vs H1
  rw[List.append_nil]
 rw[e]
 exact h
theorem bB (c:Callee X.prog X.w X.K X.mg X.base x k ps sp) (hr:Room k X.A) (hx:eU (CXE X.prog X.w) X E) (ha:PA X (e::es) t) (hg:Gl X x:=by rfl) (hdb:(x == ("__debug__" : Str))=false:=by decide)
  (he:starEach (e::es) X.env=(false,eval e X.env)::starEach es X.env:=by rfl) (hpl:(backTo pos (starEach es X.env)).any (·.1)=false:=by rfl):PE X (.Call (.Name x p) (e::es) [] pos) (tFn sp E t):=by
 obtain⟨f,fd,F,hm,hk,hb⟩:=c.ex
 intro pins s σ H Q I h
 exact FC F hr hg hm hk hb .nil hx ha hdb he hpl pins s σ H Q I (Bz h)
theorem uW {st:St} {H:Hp} {Q:VK} (h:tMe C m sp E ta t st H Q):BK C m sp [] E ta t st H Q:=by
 unfold BK
 unfold tMe at h
 have e:(fun(x:V) (H1:Hp)=>∃ a dx fs,x = .ref a/\H1 a=some (.ins C dx fs)/\fs.lookup m=none/\t st H1 fun vs H2=>sp (x::(vs++[])) H2 Q E)=fun x H1=>∃ a dx fs,x = .ref a/\H1 a=some (.ins C dx fs)/\fs.lookup m=none/\t st H1 fun vs H2=>sp (x::vs) H2 Q E:=by
  funext x H1
  simp only[List.append_nil]
 rw[e]
 exact h
theorem cB {pl:Sem Bool} (c:Method X.prog X.w X.K X.mg X.base C m k ps sp) (cl:Cls X.K C) (hr:Room k X.A) (hx:eU (CXE X.prog X.w) X E) (ho:PE X o ta) (ha:PA X (e::es) t)
  (hst:starEach (e::es) X.env=(false,eval e X.env)::starEach es X.env:=by rfl) (hpl:(backTo pos (starEach es X.env)).any (·.1)=false:=by rfl)
  (ht:eval (.Call (.Attribute o m apos) (e::es) [] pos) X.env=(do
   let ov <- eval o X.env
   standAt apos.atName
   let (f,first) <- holding [ov] (getMethod ov m pl)
   callWith pos f first (backTo pos (starEach (e::es) X.env)) (backToKw pos (keywordEach [] X.env))):=by rfl) :
  PE X (.Call (.Attribute o m apos) (e::es) [] pos) (tMe C m sp E ta t):=by
 obtain⟨f,fd,F,hm,hb⟩:=c.ex
 intro pins s σ H Q I h
 exact FA ho cl hm F hr hb .nil hx ha hst hpl ht pins s σ H Q I (uW h)
theorem cU {pl:Sem Bool} (c:Method X.prog X.w X.K X.mg X.base C m k ps sp) (cl:Cls X.K C) (hr:Room k X.A) (hx:eU (CXE X.prog X.w) X E) (ho:PE X o ta)
  (ht:eval (.Call (.Attribute o m apos) [] [] pos) X.env=(do
   let ov <- eval o X.env
   standAt apos.atName
   let (f,first) <- holding [ov] (getMethod ov m pl)
   callWith pos f first (backTo pos (starEach [] X.env)) (backToKw pos (keywordEach [] X.env))):=by rfl) :
  PE X (.Call (.Attribute o m apos) [] [] pos) (tMe C m sp E ta eQ):=by
 obtain⟨f,fd,F,hm,hb⟩:=c.ex
 intro pins s σ H Q I h
 exact DZ ho cl hm F hr hb .nil hx ht pins s σ H Q I (uW h)
theorem uX {st:St} {H:Hp} {Q:VK} (h:tMk C sp E t st H Q):BL C sp [] E t st H Q:=by
 unfold BL
 unfold tMk at h
 simp only[List.append_nil]
 exact h
theorem Fp (c:Maker X.prog X.w X.K X.mg X.base x C k ps sp) (hr:Room (k+1) X.A) (hx:eU (CXE X.prog X.w) X E) (ha:PA X (e::es) t) (hg:Gl X x:=by rfl) (hdb:(x == ("__debug__" : Str))=false:=by decide)
  (he:starEach (e::es) X.env=(false,eval e X.env)::starEach es X.env:=by rfl) (hpl:(backTo pos (starEach es X.env)).any (·.1)=false:=by rfl):PE X (.Call (.Name x p) (e::es) [] pos) (tMk C sp E t):=by
 obtain⟨f,fd,F,M,hm,hb⟩:=c.ex
 intro pins s σ H Q I h
 exact FB M F hr hg hm hb .nil hx ha hdb he hpl pins s σ H Q I (uX h)
end
noncomputable abbrev TX:=Ends->XC->St->Hp->Prop
noncomputable abbrev TEX:=St->Hp->VK->(Value->Hp->Prop)->Prop
section
variable {X:Cx} {k:Nat} {C:Addr} {ps:List Str} {sp:Sp} {x m:Str} {p pos apos:Pos} {e o:Expr} {es:List Expr} {ta:TE} {t:TA}
variable {st:Stmt} {sts rest:List Stmt} {tS:TS} {tx ux:TX} {te:TEX}
end
section
variable {X:Cx} {pins:List (Addr × Obj)} {σ : St} {H:Hp} {s:Shared} {e:Addr}
end
end L2
end
section
namespace L2
open PySem PySem.Spec PyProof.Rows
section
variable {prog:Program} {w:World} {A:Around} {R:Result->Shared->Prop} {s:Shared}
theorem AB {elt target iter:Expr} {ifs:List Expr} {scope:Scope} {pos:Pos} {it acc:Value} {env:Env} (I:Nat->Shared->Prop)
  (turn:∀ n s,I n s->wpAny (model prog w) A (pyNext it) (fun r s₁=>match r with
   | none=>R (.ok .next) s₁
   | some v=>wpAny (model prog w) A (letOwnedTupleGo target it v) (fun _ s₁'=>wpAny (model prog w) A (assign target env v) (fun _ s₂=>
     wpAny (model prog w) A (forIn ifs true fun c r=>if r=true then do let ok <- isTrue c env (eval c env); pure (ForInStep.yield ok) else pure (ForInStep.yield r)) (fun ok s₃=>
      if ok=true then wpAny (model prog w) A (eval elt env) (fun x s₄=>
       wpAny (model prog w) A (call (.builtin "list.append") [acc,x]) (fun _ s₅=>∃ m,m<n/\I m s₅) (fun _ _=>False) s₄) (fun _ _=>False) s₃
      else ∃ m,m<n/\I m s₃) (fun _ _=>False) s₂) (fun _ _=>False) s₁') (fun _ _=>False) s₁) (fun _ _=>False) s)
  (n:Nat) (h:I n s) :
  codeAny (model prog w) A (.compLoop (.ListComp elt [⟨target,iter,ifs,0⟩] scope pos) 0 it acc env) R s:=by
 refine codeAny_loop rfl I (fun n s hI=>?_) n h
 show wpAny _ A ((compTurn (.ListComp elt [⟨target,iter,ifs,0⟩] scope pos) 0 it acc env).onRaise (fun x=>do noteFrame x env; theTreesLotGoes x)) _ _ s
 refine wpAny_noted ?_
 rw[compTurn_list]
 refine wpAny_noRaise ?_
 refine wpAny_bind (wpAny_standAt (wpAny_bind (wpAny_mono (turn n s hI) (fun r s₁ h₁=>?_) fun _ _ h'=>h')))
 cases r with
 | none=>exact wpAny_pure h₁
 | some v=>
  refine wpAny_bind (wpAny_mono h₁ (fun _ s₁' h₁'=>?_) fun _ _ h'=>h')
  refine wpAny_bind (wpAny_mono h₁' (fun _ s₂ h₂=>wpAny_bind (wpAny_mono h₂ (fun ok s₃ h₃=>?_) fun _ _ h'=>h')) fun _ _ h'=>h')
  cases ok with
  | false=>exact wpAny_pure ⟨rfl,h₃⟩
  | true=>
   exact wpAny_bind (wpAny_bind (wpAny_mono h₃ (fun x s₄ h₄=>wpAny_bind (wpAny_mono h₄ (fun _ s₅ h₅=>wpAny_pure (wpAny_pure ⟨rfl,h₅⟩)) fun _ _ h'=>h')) fun _ _ h'=>h'))
end
noncomputable def tU (scope:Scope) (env:Env):List (Str × Addr):=(scope.names.filterMap fun y=>if y.2 == .free then (env.cells.lookup y.1).map (fun c=>(y.1,c)) else none).reverse
theorem sW {α β : Type} [BEq α] [LawfulBEq α] {l:List (α × β)} {x:α} {c:β} (h:l.lookup x=some c):(x,c)∈l:=by
 induction l with
 | nil=>cases h
 | cons p r ih=>
  obtain⟨a,b⟩:=p
  rw[List.lookup_cons]at h
  split at h
  ·rename_i e
   cases h
   rw[beq_iff_eq.mp e]
   exact List.mem_cons_self
  ·exact List.mem_cons_of_mem _ (ih h)
theorem Fe {scope:Scope} {env:Env} {x:Str} {c:Addr} (h:(tU scope env).lookup x=some c):env.cells.lookup x=some c:=by
 have m:=sW h
 unfold tU at m
 rw[List.mem_reverse]at m
 obtain⟨y,_,e⟩:=List.mem_filterMap.mp m
 split at e
 ·cases q:env.cells.lookup y.1 with
  | none=>rw[q]at e; cases e
  | some d=>
   rw[q]at e
   cases e
   exact q
 ·cases e
noncomputable def dH (X:Cx) (scope:Scope) (Nc:List Str) (C:Addr) (s₂ : Shared) (H₂ : Hp) (ex:List Addr):Cx where
 prog:=X.prog
 w:=X.w
 K:=X.K
 mg:=X.mg
 base:=X.base
 A:=X.A
 N:=Nc
 s₀:=s₂
 H₀:=H₂
 env:=compEnvC scope (tU scope X.env) C X.env
 outer:=X.stack
 stack:=X.stack
 ex:=ex
 fn:=fun _=>false
 calm:=X.calm
 pn:=[]
 xe:=fun _ _=>False
noncomputable def lF (X:Cx) (scope:Scope) (F:List (Str × Nat)):Bool:=
 scope.names.all (fun y=>y.2 != .cell) && scope.names.all (fun y=>y.2 != .local || scope.names.lookup y.1 == some .local) &&
 (relabel scope X.env).names.all (fun y=>(y.2 != .cell && y.2 != .free) || ((tU scope X.env).lookup y.1).isSome) &&
 F.all (fun p=>X.N[p.2]? == some p.1 && (X.env.kindOf p.1 == some .cell || X.env.kindOf p.1 == some .free) && ((relabel scope X.env).names.lookup p.1 == some .cell || (relabel scope X.env).names.lookup p.1 == some .free))
noncomputable def j8 (T:List Str) (F:List (Str × Nat)) (σ : St):St:=T.map (fun _=>none)++F.map (fun p=>(σ[p.2]?).join)
noncomputable def eC (T:List Str) (F:List (Str × Nat)):List Str:=T++F.map (·.1)
section
variable {X:Cx} {pins:List (Addr × Obj)} {σ : St} {H:Hp} {s:Shared} {scope:Scope} {T:List Str} {F:List (Str × Nat)} {fp:List Addr}
theorem BD (I:Inv X pins σ H s) (hk:scope.kind = .function) (ok:lF X scope F=true) (hf:∀ b∈fp,qM X pins H b) (ho:∀ b∈fp,∃ o,s.heap.get? b=some o) {h₁ : Heap} {t:Nat}
  (hn:h₁.Ns (s.heap.objs.size+1) (fun _=>none)) (hs:Heap.SameBut (s.heap.objs.size+1) ((s.heap.push { cls:=.type "list",data:=.seq #[] }).push { cls:=.type "dict",data:=.dict #[] }) h₁) :
  Inv (dH X scope (eC T F) (s.heap.objs.size+1) s H fp) [] (j8 T F σ) (upd H s.heap.objs.size (.lst [])) { s with heap:=h₁,toks:=t }:=by
 unfold lF at ok
 simp only[Bool.and_eq_true]at ok
 obtain⟨⟨⟨ok1,ok2⟩,ok3⟩,ok4⟩:=ok
 have nH:H s.heap.objs.size=none:=I.hok.fresh (Nat.le_refl _)
 have kp:∀ b o,s.heap.get? b=some o->h₁.get? b=some o:=fun b o e=>by
  have l:=Heap.lt_size e
  rw[hs.2 b (Nat.ne_of_lt (Nat.lt_succ_of_lt l))]
  exact Heap.get?_push_of_some _ (Heap.get?_push_of_some _ e)
 have hD:h₁.get? s.heap.objs.size=some { cls:=.type "list",data:=.seq #[] }:=by
  rw[hs.2 _ (Nat.ne_of_lt (Nat.lt_succ_self _))]
  exact Heap.get?_push_of_some _ (Heap.get?_push_size _ rfl)
 have clx:∀ x c,(tU scope X.env).lookup x=some c->X.env.cells.lookup x=some c:=fun x c e=>Fe e
 have celt:∀ x c,X.env.cells.lookup x=some c->c<s.heap.objs.size:=fun x c e=>by
  obtain⟨v,o,ho,_⟩:=I.cell x c e
  exact Heap.lt_size ho
 have OK:(dH X scope (eC T F) (s.heap.objs.size+1) s H fp).Ok:=by
  refine⟨I.ok.mod,hk,I.ok.glob,I.ok.blt,Nat.le_succ _,fun x y c e1 e2=>I.ok.inj x y c (clx _ _ e1) (clx _ _ e2),fun x hx=>?_,(fun x c z=>Bool.noConfusion z),I.ok.hd,I.ok.frames,.inl rfl,fun b hb=>⟨?_,fun x c e=>?_⟩,I.bs,?_,fun b o e hb=>?_,fun b hb hb2=>?_,I.stack,I.stkFree⟩
  ·have hx:(relabel scope X.env).names.lookup x=some .cell\/(relabel scope X.env).names.lookup x=some .free:=hx
   have q:∀ k,(relabel scope X.env).names.lookup x=some k->(k = .cell\/k = .free)->((tU scope X.env).lookup x).isSome=true:=fun k e hk=>by
    have z:=List.all_eq_true.mp ok3 (x,k) (sW e)
    rcases hk with rfl | rfl
    ·simpa using z
    ·simpa using z
   rcases hx with hx | hx
   ·exact Option.isSome_iff_exists.mp (q _ hx (.inl rfl))
   ·exact Option.isSome_iff_exists.mp (q _ hx (.inr rfl))
  ·obtain⟨o,e⟩:=ho b hb
   exact Nat.ne_of_lt (Nat.lt_succ_of_lt (Heap.lt_size e))
  ·exact(hf b hb).2.2.2.2.1 x c (clx x c e)
  ·exact Nat.le_trans I.ok.bsz I.sz
  ·obtain⟨_,_,_,h4,_⟩:=hf b hb
   rcases h4 with h4 | h4
   ·exact I.ok.noex b o e h4
   ·exact absurd (Nat.lt_of_lt_of_le (Heap.lt_size e) (Nat.le_trans I.ok.bsz h4)) (Nat.lt_irrefl _)
  ·rcases List.mem_cons.mp (I.stkSub b hb2) with z | z
   ·exact(hf b hb).2.1 z
   ·exact(hf b hb).2.2.1 z
 refine⟨OK,rfl,I.bare,Un.laid kp (Nat.le_refl _) nH,⟨_,hn,fun i x v e1 e2 hv=>?_⟩,fun x c e=>?_,?_,fun x c e=>?_,fun p hp=>absurd (show p∈([]:List (Addr × Obj)) from hp) (by simp),?_,?_⟩
 ·have e1:(eC T F)[i]? = some x:=e1
  unfold eC at e1
  unfold j8 at e2
  by_cases hi:i<T.length
  ·rw[List.getElem?_append_left (by simpa using hi),List.getElem?_map]at e2
   cases q:T[i]? with
   | none=>rw[q]at e2; cases e2
   | some z=>rw[q]at e2; cases e2
  ·rw[List.getElem?_append_right (by simpa using hi),List.getElem?_map]at e2
   rw[List.getElem?_append_right (by simpa using hi),List.getElem?_map]at e1
   rw[List.length_map]at e2
   cases q:F[i - T.length]? with
   | none=>rw[q]at e2; cases e2
   | some p=>
    rw[q]at e1 e2
    have e1:p.1=x:=Option.some.inj e1
    have e2:(σ[p.2]?).join=some v:=Option.some.inj e2
    subst e1
    have z:=List.all_eq_true.mp ok4 p (List.mem_of_getElem? q)
    simp only[Bool.and_eq_true,Bool.or_eq_true,beq_iff_eq]at z
    obtain⟨⟨z1,z2⟩,z3⟩:=z
    have e3:σ[p.2]? = some (some v):=by
     cases q2:σ[p.2]? with
     | none=>rw[q2]at e2; cases e2
     | some y=>rw[q2]at e2; exact congrArg some e2
    obtain⟨m,hm,hl⟩:=I.loc
    obtain⟨u,ru,lk⟩:=hl p.2 p.1 v z1 e3 (by rcases z2 with z2 | z2; exact .inr (.inl z2); exact .inr (.inr z2))
    refine⟨u,ru,.inr ⟨z3,?_⟩⟩
    have hc:∃ c,(tU scope X.env).lookup p.1=some c:=OK.has p.1 z3
    obtain⟨c,hc⟩:=hc
    refine⟨c,hc,?_⟩
    rcases lk with ⟨lk,_⟩ | ⟨_,c',hc',hcell⟩
    ·rcases z2 with z2 | z2
     ·rw[z2]at lk; cases lk
     ·rw[z2]at lk; cases lk
    ·rw[clx _ _ hc]at hc'
     cases hc'
     exact hcell.keeps kp
 ·obtain⟨v,q⟩:=I.cell x c (clx x c e)
  exact⟨v,q.keeps kp⟩
 ·show upd H s.heap.objs.size (.lst []) (s.heap.objs.size+1)=none
  rw[aG (Nat.ne_of_gt (Nat.lt_succ_self _))]
  exact I.hok.fresh (Nat.le_succ _)
 ·have l:=celt x c (clx x c e)
  show upd H s.heap.objs.size (.lst []) c=none
  rw[aG (Nat.ne_of_lt l)]
  exact I.freeC x c (clx x c e)
 ·exact I.hok.laid kp (Nat.le_refl _) ⟨Nat.zero_le _,[],0,.nil,hD⟩
 ·show (j8 T F σ).length=(eC T F).length
  unfold j8 eC
  simp
noncomputable def tT (T:List Str) (F:List (Str × Nat)) (g:TG) (tc:TT) (te:TE) (σ : St) (Q:VK) (J:It) (H1:Hp):Prop:=∀ D,H1 D=none->∃ W:Nat->Nat->List V->St->Hp->Prop,(∃ m,W 0 m [] (j8 T F σ) (upd H1 D (.lst [])))/\
 ∀ i m ys σc H2,W i m ys σc H2->H2 D=some (.lst ys)/\((J.stop i H2/\Q (.ref D) H2)\/(J.go i H2/\ys.length<sizeLine/\∀ x H3,J.yld i H2 x H3->g x σc H3 fun σ4 H4=>tc σ4 H4 fun b H5=>
  if b=true then te σ4 H5 fun y H6=>H6 D=some (.lst ys)/\∃ m',m'<m/\W (i+1) m' (ys++[y]) σ4 (upd H6 D (.lst (ys++[y]))) else ∃ m',m'<m/\W (i+1) m' ys σ4 H5))
noncomputable def Fn (T:List Str) (F:List (Str × Nat)) (wi:TI) (g:TG) (tc:TT) (te:TE):TE:=fun σ H Q=>wi σ H (tT T F g tc te σ Q)
noncomputable def PIf (X:Cx) (ifs:List Expr) (t:TT):Prop:=
 ∀ (pins:List (Addr × Obj)) (s:Shared) (σ : St) (H:Hp) (Q:Bool->Hp->Prop),Inv X pins σ H s->t σ H Q->wpAny (model X.prog X.w) X.A (forIn ifs true fun c r=>if r=true then do let ok <- isTrue c X.env (eval c X.env); pure (ForInStep.yield ok) else pure (ForInStep.yield r)) (TP X pins σ Q) X.xe s
noncomputable def C2:TT:=fun _ H Q=>Q true H
theorem E6 {X:Cx}:PIf X [] C2:=fun pins s σ H Q I h=>wpAny_tests_nil ⟨H,I,h⟩
theorem qQ {X:Cx} {c:Expr} {t:TT} (h:PT X c t):PIf X [c] t:=fun pins s σ H Q I q=>wpAny_tests_one (h pins s σ H Q I q)
theorem AA {s2 s':Shared} {σc:St} {H2 H':Hp} {h':Heap} {Nc:List Str} (I:Inv X pins σ H2 s2) (hf:∀ b∈fp,qM X pins H2 b) (I':Inv (dH X scope Nc (s2.heap.objs.size+1) s2 H2 fp) [] σc H' s') (hs:Heap.SameBut (s2.heap.objs.size+1) s'.heap h'):Inv X pins σ H' { s' with heap:=h' }:=by
 have U:Un (frs X.stack) fp H2 H' s2.heap s'.heap:=I'.base
 have ne:∀ b o,s2.heap.get? b=some o->b≠s2.heap.objs.size+1:=fun b o e=>Nat.ne_of_lt (Nat.lt_succ_of_lt (Heap.lt_size e))
 have free:H' (s2.heap.objs.size+1)=none:=I'.free
 refine I.call' (s':={ s' with heap:=h' }) (ch:=fp) I'.os ⟨fun b o q n hb hc=>(hs.2 b (ne b o q)).trans (U.keep b o q n hb hc),fun b o q n hb hc=>?_,U.free,fun b o q hc=>?_,U.tups,U.frzs,U.tbls⟩ ?_ I'.bare fun b hb=>?_
 ·obtain⟨sl,z⟩:=U.slot b o q n hb hc
  exact⟨sl,(hs.2 b (ne b o q)).trans z⟩
 ·obtain⟨o',z⟩:=U.there b o q hc
  exact⟨o',(hs.2 b (ne b o q)).trans z⟩
 ·intro a o e
  refine(I'.hok a o e).stay (fun b u hb q=>(hs.2 b ?_).trans q) (fun _ q=>q) fun _ _ q=>q
  rintro rfl
  rcases hb with hb | hb
  ·rw[<- hb,free]at e; cases e
  ·rw[free]at hb; cases hb
 ·obtain⟨f0,f1,f2,f3,f4,f5⟩:=hf b hb
  exact⟨f3,f1,f4,f5⟩
theorem vW {elt tg iter:Expr} {ifs:List Expr} {pos:Pos} {g:TG} {tc:TT} {te:TE} {J:It} {it:Addr} {tn:Nat->Heap->Prop} {s2:Shared} {H2:Hp} {RR:Value->Addr->Result->Shared->Prop} {E:Value->Shared->Prop} {Q:Addr->Hp->Prop}
  (hc:X.calm=true) (hk:scope.kind = .function) (ok:lF X scope F=true)
  (hg:∀ C s₂ H₂ ex,PG (dH X scope (eC T F) C s₂ H₂ ex) tg g) (hif:∀ C s₂ H₂ ex,PIf (dH X scope (eC T F) C s₂ H₂ ex) ifs tc) (he:∀ C s₂ H₂ ex,PE (dH X scope (eC T F) C s₂ H₂ ex) elt te)
  (I2:Inv X pins σ H2 s2) (Tn:Turn X.prog X.w X.K tg J fp it tn) (st2:tn 0 s2.heap) (f2:∀ b∈fp,qM X pins H2 b)
  (h3:∀ D,H2 D=none->∃ W:Nat->Nat->List V->St->Hp->Prop,(∃ m,W 0 m [] (j8 T F σ) (upd H2 D (.lst [])))/\
   ∀ i m ys σc H2,W i m ys σc H2->H2 D=some (.lst ys)/\((J.stop i H2/\Q D H2)\/(J.go i H2/\ys.length<sizeLine/\∀ x H3,J.yld i H2 x H3->g x σc H3 fun σ4 H4=>tc σ4 H4 fun b H5=>
    if b=true then te σ4 H5 fun y H6=>H6 D=some (.lst ys)/\∃ m',m'<m/\W (i+1) m' (ys++[y]) σ4 (upd H6 D (.lst (ys++[y]))) else ∃ m',m'<m/\W (i+1) m' ys σ4 H5)))
  (hRR:∀ D s' σc H',Inv (dH X scope (eC T F) (s2.heap.objs.size+1) s2 H2 fp) [] σc H' s'->Q D H'->RR (.ref D) (s2.heap.objs.size+1) (.ok .next) s') :
  wpAny (model X.prog X.w) X.A (newList []) (fun acc s₃=>wpAny (model X.prog X.w) X.A (newFunctionEnv scope X.env.globals (tU scope X.env) [] X.env.qual none .none (some X.env)) (fun cenv s₄=>
   codeAny (model X.prog X.w) X.A (.compStart (.ListComp elt [⟨tg,iter,ifs,0⟩] scope pos) 0 (.ref it) acc { cenv with scope:=relabel scope X.env }) (RR acc cenv.locals) s₄) E s₃) E s2:=by
 have ok':=ok
 unfold lF at ok'
 simp only[Bool.and_eq_true]at ok'
 obtain⟨⟨⟨ok1,ok2⟩,ok3⟩,ok4⟩:=ok'
 have hcell:∀ y∈scope.names,y.2 ≠ .cell:=fun y hy z=>by
  have:=List.all_eq_true.mp ok1 y hy
  rw[z]at this
  cases this
 refine wpAny_newObj_type (wpAny_newFunctionEnv hcell (by intro y hy; simp at hy) (fun h₁ hns₁ hsb₁=>?_) hk)
 dsimp only at hns₁ hsb₁ ⊢
 have hsz:(s2.heap.push { cls:=.type "list",dict:=none,data:=.seq ([]:List Value).toArray }).objs.size=s2.heap.objs.size+1:=Heap.size_push _ _
 rw[hsz]at hns₁ hsb₁ ⊢
 have I3:Inv (dH X scope (eC T F) (s2.heap.objs.size+1) s2 H2 fp) [] (j8 T F σ) (upd H2 s2.heap.objs.size (.lst [])) { s2 with heap:=h₁,toks:=s2.toks+([]:List (Str × Value)).length }:=
  BD I2 hk ok f2 (fun b hb=>let ⟨o,e,_⟩:=Tn.obj _ _ st2 b hb; ⟨o,e⟩) hns₁ hsb₁
 obtain⟨W,⟨m0,w0⟩,turn⟩:=h3 s2.heap.objs.size (I2.hok.fresh (Nat.le_refl _))
 have stat:∀ {H':Hp},(∀ b∈fp,H' b=none)->∀ b∈fp,qM (dH X scope (eC T F) (s2.heap.objs.size+1) s2 H2 fp) [] H' b:=fun {H'} hn b hb=>
  ⟨hn b hb,(I3.ok.exf b hb).1,I3.ok.exfs b hb,.inl hb,(I3.ok.exf b hb).2,fun p hp=>absurd (show p∈([]:List (Addr × Obj)) from hp) (by simp)⟩
 have st3:tn 0 h₁:=Tn.keep _ _ _ st2 fun b hb o e=>by
  have l:=Heap.lt_size e
  rw[hsb₁.2 b (Nat.ne_of_lt (Nat.lt_succ_of_lt l))]
  exact Heap.get?_push_of_some _ (Heap.get?_push_of_some _ e)
 have fr3:∀ b∈fp,(upd H2 s2.heap.objs.size (.lst [])) b=none:=fun b hb=>by
  obtain⟨o,e,_⟩:=Tn.obj _ _ st2 b hb
  rw[aG (Nat.ne_of_lt (Heap.lt_size e))]
  exact(f2 b hb).1
 have loop:codeAny (model X.prog X.w) X.A (.compLoop (.ListComp elt [⟨tg,iter,ifs,0⟩] scope pos) 0 (.ref it) (.ref s2.heap.objs.size) (compEnvC scope (tU scope X.env) (s2.heap.objs.size+1) X.env))
   (RR (.ref s2.heap.objs.size) (s2.heap.objs.size+1)) { s2 with heap:=h₁,toks:=s2.toks+([]:List (Str × Value)).length }:=by
  refine AB (fun n s'=>∃ i ys σ' H',Inv (dH X scope (eC T F) (s2.heap.objs.size+1) s2 H2 fp) [] σ' H' s'/\tn i s'.heap/\(∀ b∈fp,H' b=none)/\W i n ys σ' H') ?_ m0 ⟨0,[],_,_,I3,st3,fr3,w0⟩
  rintro n s4 ⟨i,ys,σ4,H4,I4,st4,fr4,w4⟩
  obtain⟨hD,go⟩:=turn i n ys σ4 H4 w4
  rcases go with ⟨stop,qn⟩ | ⟨go,hz,step⟩
  ·refine thn (Tn.done (dH X scope (eC T F) (s2.heap.objs.size+1) s2 H2 fp) rfl rfl rfl hc i [] s4 σ4 H4 (fun _ _=>False) I4 (stat fr4) st4 stop) fun r s5 zQq=>?_
   obtain⟨hr,I5⟩:=zQq
   subst hr
   exact hRR _ s5 σ4 H4 I5 qn
  ·refine thn (Tn.item (dH X scope (eC T F) (s2.heap.objs.size+1) s2 H2 fp) rfl rfl rfl hc i [] s4 σ4 H4 (fun _ _=>False) I4 (stat fr4) st4 go) fun r s5 zQq=>?_
   obtain⟨u,hr,h5⟩:=zQq
   subst hr
   refine thn h5 fun _ s6 zQq=>?_
   obtain⟨x,H6,I6,r6,y6,st6,fr6⟩:=zQq
   have I6':=I6.pinned (stat fr6) (Tn.obj _ _ st6)
   refine thn (hg _ _ _ _ _ s6 σ4 H6 x u _ I6' r6 (step x H6 y6)) fun _ s7 zQq=>?_
   obtain⟨σ7,H7,I7,q7⟩:=zQq
   refine thn (hif _ _ _ _ _ s7 σ7 H7 _ I7 q7) fun b s8 zQq=>?_
   obtain⟨H8,I8,q8⟩:=zQq
   have again:∀ {s9:Shared} {σ9:St} {H9:Hp} {zs:List V},Inv (dH X scope (eC T F) (s2.heap.objs.size+1) s2 H2 fp) ([]++sI fp s6.heap) σ9 H9 s9->(∃ m',m'<n/\W (i+1) m' zs σ9 H9)->
     ∃ m,m<n/\∃ i ys σ' H',Inv (dH X scope (eC T F) (s2.heap.objs.size+1) s2 H2 fp) [] σ' H' s9/\tn i s9.heap/\(∀ b∈fp,H' b=none)/\W i m ys σ' H':=fun {s9 σ9 H9 zs} I9 ⟨m',hm,w9⟩=>by
    refine⟨m',hm,i+1,zs,σ9,H9,I9.unpinned,Tn.keep _ _ _ st6 fun b hb o e=>(I9.pin (b,o) (List.mem_append_right _ (List.mem_append_right _ (j5 hb e)))).1,fun b hb=>?_,w9⟩
    obtain⟨o,e,d⟩:=Tn.obj _ _ st6 b hb
    exact(I9.pin (b,o) (List.mem_append_right _ (List.mem_append_right _ (j5 hb e)))).2.1
   cases b with
   | false=>
    rw[if_neg Bool.false_ne_true]at q8 ⊢
    exact again I8 q8
   | true=>
    rw[if_pos rfl]at q8 ⊢
    refine thn (he _ _ _ _ _ s8 σ7 H8 _ I8 q8) fun uy s9 zQq=>?_
    obtain⟨y,H9,I9,r9,hD9,q9⟩:=zQq
    refine thn (lT _ s9 σ7 H9 (.ref s2.heap.objs.size) [y] (.ref s2.heap.objs.size) [uy] (fun _ H'=>∃ m',m'<n/\W (i+1) m' (ys++[y]) σ7 H') I9 rfl (.cons r9 .nil) ⟨_,ys,y,rfl,rfl,hD9,hz,q9⟩) fun _ s10 zQq=>?_
    obtain⟨_,H10,I10,_,q10⟩:=zQq
    exact again I10 q10
 exact codeAny_compStart_list loop (Tn.self _ 0 _ _ _ st3 loop)
theorem eP {elt tg iter:Expr} {ifs:List Expr} {pos:Pos} {wi:TI} {g:TG} {tc:TT} {te:TE} (T:List Str) (F:List (Str × Nat)) (hc:X.calm=true) (hi:PI X tg iter wi)
  (hg:∀ C s₂ H₂ ex,PG (dH X scope (eC T F) C s₂ H₂ ex) tg g) (hif:∀ C s₂ H₂ ex,PIf (dH X scope (eC T F) C s₂ H₂ ex) ifs tc) (he:∀ C s₂ H₂ ex,PE (dH X scope (eC T F) C s₂ H₂ ex) elt te)
  (hclos:closureFor scope X.env=pure (tU scope X.env):=by rfl) (hk:scope.kind = .function:=by rfl) (ok:lF X scope F=true:=by rfl) (hs:∀ x,foldedSetIterable iter X.env x=pure x:=by intro _; rfl) :
  PE X (.ListComp elt [⟨tg,iter,ifs,0⟩] scope pos) (Fn T F wi g tc te):=by
 intro pins s σ H Q I h
 have ok':=ok
 unfold lF at ok'
 simp only[Bool.and_eq_true]at ok'
 obtain⟨⟨⟨ok1,ok2⟩,ok3⟩,ok4⟩:=ok'
 have hnames:∀ x∈scope.names,x.2 = .local->scope.names.lookup x.1=some .local:=fun x hx z=>by
  have:=List.all_eq_true.mp ok2 x hx
  rw[z]at this
  simpa using this
 rw[eval_ListComp]
 refine wpAny_comprehension_free (use:=none) rfl hs hclos hk hnames (thn (hi pins s σ H _ I h) fun v s1 h1=>thn h1 fun itv s2 h2=>?_)
 obtain⟨it,fp,tn,J,H2,e,I2,Tn,st2,f2,h3⟩:=h2
 subst e
 refine vW (RR:=fun acc C=>compPost (model X.prog X.w) X.A X.xe none (EP X pins σ Q) acc C) (Q:=fun D H'=>Q (.ref D) H') hc hk ok hg hif he I2 Tn st2 f2 h3 fun D s' σc H' I' q=>?_
 obtain⟨m,hn,_⟩:=I'.loc
 exact⟨m,hn,fun h' hs'=>⟨.ref D,H',AA I2 f2 I' hs',rfl,q⟩⟩
theorem E5 {y:Str} {i:Nat} {py spos:Pos} {elt tg iter:Expr} {ifs:List Expr} {pos:Pos} {wi:TI} {g:TG} {tc:TT} {te:TE} (T:List Str) (F:List (Str × Nat)) (hN:X.N.Nodup) (hy:X.N[i]? = some y) (hx:Loc X.env.scope y) (hc:X.calm=true) (hi:PI X tg iter wi)
  (hg:∀ C s₂ H₂ ex,PG (dH X scope (eC T F) C s₂ H₂ ex) tg g) (hif:∀ C s₂ H₂ ex,PIf (dH X scope (eC T F) C s₂ H₂ ex) ifs tc) (he:∀ C s₂ H₂ ex,PE (dH X scope (eC T F) C s₂ H₂ ex) elt te)
  (hsw:swapsWith (.ListComp elt [⟨tg,iter,ifs,0⟩] scope pos) (some (.Name y py)) spos.line X.env=pure true:=by rfl)
  (hclos:closureFor scope X.env=pure (tU scope X.env):=by rfl) (hk:scope.kind = .function:=by rfl) (ok:lF X scope F=true:=by rfl) (hs:∀ x,foldedSetIterable iter X.env x=pure x:=by intro _; rfl)
  (hfn:X.fn y=true\/X.env.scope.names.lookup y=some .local:=by first | exact .inl rfl | exact .inr rfl | assumption) :
  PS X (.Assign [.Name y py] (.ListComp elt [⟨tg,iter,ifs,0⟩] scope pos) spos) (fun D σ H=>Fn T F wi g tc te σ H fun v H'=>D.nx (σ.set i (some v)) H'):=by
 intro pins s σ H D I h
 have ok':=ok
 unfold lF at ok'
 simp only[Bool.and_eq_true]at ok'
 obtain⟨⟨⟨ok1,ok2⟩,ok3⟩,ok4⟩:=ok'
 have hnames:∀ x∈scope.names,x.2 = .local->scope.names.lookup x.1=some .local:=fun x hx z=>by
  have:=List.all_eq_true.mp ok2 x hx
  rw[z]at this
  simpa using this
 rw[exec_Assign_Name_used _ _ _ _ hsw]
 refine wpAny_bind (wpAny_standAt (wpAny_bind ?_))
 show wpAny _ X.A (do let _ <- comprehension (.ListComp elt [⟨tg,iter,ifs,0⟩] scope pos) scope X.env _ (newList []) false (eval iter X.env) (some (assign (.Name y py) X.env))) _ _ s
 refine wpAny_bind (wpAny_mono (wpAny_comprehension_free (use:=some (assign (.Name y py) X.env)) (Q:=fun _ s'=>SP X pins D .next s') rfl hs hclos hk hnames
  (thn (hi pins s σ H _ I h) fun v s1 h1=>thn h1 fun itv s2 h2=>?_)) (fun _ s' hq=>wpAny_pure (wpAny_pure hq)) fun _ _ e=>e)
 obtain⟨it,fp,tn,J,H2,e,I2,Tn,st2,f2,h3⟩:=h2
 subst e
 refine vW (RR:=fun acc C=>compPost (model X.prog X.w) X.A X.xe (some (assign (.Name y py) X.env)) (fun _ s'=>SP X pins D .next s') acc C) (Q:=fun Dd H'=>D.nx (σ.set i (some (.ref Dd))) H') hc hk ok hg hif he I2 Tn st2 f2 h3 fun Dd s' σc H' I' q=>?_
 have I3:Inv X pins σ H' s':=AA I2 f2 I' ⟨rfl,fun _ _=>rfl⟩
 obtain⟨m,hn,_⟩:=I'.loc
 obtain⟨oC,es,ep,hoC,hdC,hkC,hmC⟩:=hn
 have fC:H' (s2.heap.objs.size+1)=none:=I'.free
 have hle:s2.heap.objs.size<=s2.heap.objs.size+1:=Nat.le_succ _
 have F0:=I2.fpOk (H':=H') hle fC
 obtain⟨g0,g1,g2,g3,g4,g5⟩:=F0
 have I4:Inv X (pins++[(s2.heap.objs.size+1,oC)]) σ H' s':=I3.pins_of fun p hp=>(List.mem_append.mp hp).elim (fun z=>I3.pin p (List.mem_append_right _ z)) fun z=>by
  have e:p=(s2.heap.objs.size+1,oC):=by simpa using z
  subst e
  exact⟨hoC,fC,g1,g2,fun v z=>by rw[hdC]at z; cases z⟩
 show wpAny _ X.A (assign (.Name y py) X.env (.ref Dd)) _ _ _
 refine thn (bW (pos:=py) hN hy hx hfn _ s' σ H' (.ref Dd) (.ref Dd) _ I4 rfl (show vQ i (.ref Dd) σ H' D.nx from q)) fun _ s5 zQq=>?_
 obtain⟨σ5,H5,I5,q5⟩:=zQq
 have p5:=I5.pin (s2.heap.objs.size+1,oC) (List.mem_append_right _ (List.mem_append_right _ (by simp)))
 refine⟨m,⟨oC,es,ep,p5.1,hdC,hkC,hmC⟩,fun h' hs'=>?_⟩
 refine⟨σ5,H5,?_,q5⟩
 have I6:=I5.unpinned
 exact I6.turned (it:=s2.heap.objs.size+1) (t':=s5.toks) (fun b o hb e=>(hs'.2 b hb).trans e) p5.2.1 g1 g3 g4 g5
end
end L2
end
section
namespace L2
open PySem PySem.Spec PyProof.Rows
mutual
noncomputable def Den (H:Hp):PyData->V->Prop
 | .none,v=>v = .non
 | .bool b,v=>v = .bl b
 | .int i,v=>v = .int i
 | .str x,v=>v = .str x
 | .tuple ds,v=>∃ a xs,v = .ref a/\H a=some (.tup xs)/\aU H ds xs
 | .list ds,v=>∃ a xs,v = .ref a/\H a=some (.lst xs)/\aU H ds xs
 | .dict _,_=>False
noncomputable def aU (H:Hp):List PyData->List V->Prop
 | [],xs=>xs=[]
 | d::ds,xs=>∃ x r,xs=x::r/\Den H d x/\aU H ds r
end
section
variable {X:Cx} {pins:List (Addr × Obj)} {σ : St} {H H':Hp} {s:Shared} {K:PySem.W.Frag}
theorem aF.seqT {a:Addr} {xs:List V} (e:aF H H') (h:SqT K H a xs):SqT K H' a xs:=by
 rcases h with (h | ⟨o,h⟩) | h
 ·exact .inl (.inl (e _ _ h))
 ·exact .inl (.inr ⟨o,e _ _ h⟩)
 ·exact .inr h
mutual
theorem Den.same (e:aF H H'):∀ {d:PyData} {v:V},Den H d v->Den H' d v
 | .none,v,h=>by simp only[Den]at h ⊢; exact h
 | .bool b,v,h=>by simp only[Den]at h ⊢; exact h
 | .int i,v,h=>by simp only[Den]at h ⊢; exact h
 | .str x,v,h=>by simp only[Den]at h ⊢; exact h
 | .tuple ds,v,h=>by
  simp only[Den]at h ⊢
  obtain⟨a,xs,e1,h1,h2⟩:=h
  exact⟨a,xs,e1,e _ _ h1,aU.same e h2⟩
 | .list ds,v,h=>by
  simp only[Den]at h ⊢
  obtain⟨a,xs,e1,h1,h2⟩:=h
  exact⟨a,xs,e1,e _ _ h1,aU.same e h2⟩
 | .dict _,v,h=>by simp only[Den]at h
theorem aU.same (e:aF H H'):∀ {ds:List PyData} {xs:List V},aU H ds xs->aU H' ds xs
 | [],xs,h=>by simp only[aU]at h ⊢; exact h
 | d::ds,xs,h=>by
  simp only[aU]at h ⊢
  obtain⟨x,r,e1,h1,h2⟩:=h
  exact⟨x,r,e1,Den.same e h1,aU.same e h2⟩
end
mutual
theorem i8 (I:Inv X pins σ H s):∀ {d:PyData} {v:V} {u:Value},Den H d v->bU v u->∃ as,Reads s.heap u d as
 | .none,v,u,h,r=>by
  simp only[Den]at h
  subst h
  cases (show u=Value.none from r)
  exact⟨_,.none⟩
 | .bool b,v,u,h,r=>by
  simp only[Den]at h
  subst h
  cases (show u=Value.bool b from r)
  exact⟨_,.bool b⟩
 | .int i,v,u,h,r=>by
  simp only[Den]at h
  subst h
  obtain⟨t,e⟩:=(show ∃ t,u=Value.int i t from r)
  subst e
  exact⟨_,.int i t⟩
 | .str x,v,u,h,r=>by
  simp only[Den]at h
  subst h
  obtain⟨t,e⟩:=(show ∃ t,u=Value.str x t from r)
  subst e
  exact⟨_,.str x t⟩
 | .tuple ds,v,u,h,r=>by
  simp only[Den]at h
  obtain⟨a,xs,e1,h1,h2⟩:=h
  subst e1
  cases (show u=Value.ref a from r)
  obtain⟨its,rv,⟨o,ho,hc,n,hd⟩,_⟩:=I.tuple (SqT.of h1)
  obtain⟨as,ra⟩:=nA I h2 rv
  exact⟨as,.tuple ho hc hd (by simpa using ra)⟩
 | .list ds,v,u,h,r=>by
  simp only[Den]at h
  obtain⟨a,xs,e1,h1,h2⟩:=h
  subst e1
  cases (show u=Value.ref a from r)
  obtain⟨its,rv,⟨o,n,ho,hc,_,hd⟩,_⟩:=I.list (SqL.of h1)
  obtain⟨as,ra⟩:=nA I h2 rv
  exact⟨a::as,.list ho hc hd (by simpa using ra)⟩
 | .dict _,v,u,h,r=>by simp only[Den]at h
theorem nA (I:Inv X pins σ H s):∀ {ds:List PyData} {xs:List V} {us:List Value},aU H ds xs->bQ xs us->∃ as,ReadsAll s.heap us ds as
 | [],xs,us,h,r=>by
  simp only[aU]at h
  subst h
  cases r
  exact⟨_,.nil⟩
 | d::ds,xs,us,h,r=>by
  simp only[aU]at h
  obtain⟨x,rr,e1,h1,h2⟩:=h
  subst e1
  cases r with
  | cons r1 r2=>
   obtain⟨as,ra⟩:=i8 I h1 r1
   obtain⟨bs,rb⟩:=nA I h2 r2
   exact⟨_,.cons ra rb⟩
end
end
section
variable {X:Cx}
noncomputable def rEqD:R2:=fun x y H Q=>∃ d e,Den H d x/\Den H e y/\SeqAt.shaped d=true/\SeqAt.shaped e=true/\Q (.bl (PyData.eqv d e)) H
noncomputable def GD:R2:=fun x y H Q=>∃ d e,Den H d x/\Den H e y/\SeqAt.shaped d=true/\SeqAt.shaped e=true/\Q (.bl (!PyData.eqv d e)) H
theorem GP (hu:X.A.units+64<cLine):OpR X (compareOp .Eq) rEqD:=by
 intro pins s σ H x y v u Q I rx ry h
 obtain⟨d,e,h1,h2,s1,s2,q⟩:=h
 obtain⟨as,ra⟩:=i8 I h1 rx
 obtain⟨bs,rb⟩:=i8 I h2 ry
 exact eq_dataH ra rb s1 s2 hu ⟨.bl _,H,I,rfl,q⟩
theorem xG (hu:X.A.units+64<cLine):OpR X (compareOp .NotEq) GD:=by
 intro pins s σ H x y v u Q I rx ry h
 obtain⟨d,e,h1,h2,s1,s2,q⟩:=h
 obtain⟨as,ra⟩:=i8 I h1 rx
 obtain⟨bs,rb⟩:=i8 I h2 ry
 exact ne_dataH ra rb s1 s2 hu ⟨.bl _,H,I,rfl,q⟩
noncomputable def rIsi (K:PySem.W.Frag):List V->Hp->VK->Prop:=fun xs H Q=>∃ x n t b,xs=[x,.ty n]/\TyOf K H x t/\PySem.W.kitOne K t (.type n)=some b/\Q (.bl b) H
theorem ET:eX X (.builtin "isinstance") (rIsi X.K):=by
 intro pins s σ H xs us Q I r h
 obtain⟨x,n,t,b,rfl,ty,hk,q⟩:=h
 cases r with
 | cons r1 r2=>
  cases r2 with
  | cons r2 r3=>
   cases r3
   cases (show _=Value.type n from r2)
   exact CZ I r1 ty hk fun tk=>⟨.bl b,H,I.tok tk,rfl,q⟩
theorem aJ {H:Hp} {p:Addr} {o:HO} (h:H p=none):aF H (upd H p o):=fun b u e=>by
 rw[aG (aY e h)]
 exact e
noncomputable def rCat2:R2:=fun x y H Q=>∃ a b xs ys,x = .ref a/\y = .ref b/\H a=some (.tup xs)/\H b=some (.tup ys)/\xs.length+ys.length<=sizeLine/\
 ∀ p H',aF H H'->H' p=some (.tup (xs++ys))->Q (.ref p) H'
theorem nV:OpR X (binaryOp .Add) rCat2:=by
 intro pins s σ H x y v u Q I rx ry h
 obtain⟨a,b,xs,ys,rfl,rfl,ha,hb,hz,q⟩:=h
 by_cases hx:xs=[]
 ·subst hx
  cases (show v=Value.ref a from rx)
  cases (show u=Value.ref b from ry)
  obtain⟨its,r1,p1,_⟩:=I.tuple (SqT.of ha)
  obtain⟨its2,r2,p2,_⟩:=I.tuple (SqT.of hb)
  cases r1
  obtain⟨⟨cls,dd,data,sl⟩,ho,hc,n,hd⟩:=p1
  obtain⟨⟨cls2,dd2,data2,sl2⟩,ho2,hc2,n2,hd2⟩:=p2
  simp only at hc hd hc2 hd2
  subst hc hd hc2 hd2
  refine concat_meets ⟨_,ho,rfl⟩ ⟨_,ho2,rfl⟩ noFill_tuple_add seq_tuple_add PySem.F.slot_tuple_add PySem.F.entry_tuple_add (PySem.F.args_tuple_add_2 _ _)
   (tuple_addW0 a b _ _ n n2 dd dd2 sl sl2 rfl) ⟨ho,ho2,?_⟩
  exact⟨.ref b,H,I,rfl,q b H (aF.refl H) hb⟩
 ·refine FE pins s σ H (.ref a) (.ref b) v u Q I rx ry ⟨a,b,xs,ys,rfl,rfl,SqT.of ha,SqT.of hb,hx,hz,fun z=>?_,fun z p hp=>q p _ (aJ hp) aE⟩
  subst z
  refine q a H (aF.refl H) ?_
  rw[List.append_nil]
  exact ha
noncomputable def GB (K:PySem.W.Frag):List V->Hp->VK->Prop:=fun xs H Q=>∃ (p:Addr) (ns:List Int),xs=[.ref p]/\(SqL K H p (ns.map V.int)\/SqT K H p (ns.map V.int))/\Q (.int ns.sum) H
theorem kY (ns:List Int):∀ n,n<=ns.length->PySem.preSum (fun i=>ns.getD i 0) n=(ns.take n).sum
 | 0,_=>by simp [PySem.preSum]
 | n+1,h=>by
  have e:=kY ns n (by omega)
  have hl:n<ns.length:=by omega
  unfold PySem.preSum
  rw[e,List.take_succ,List.sum_append]
  simp [List.getD,hl]
theorem BZ {ns:List Int}:∀ {us:List Value},bQ (ns.map V.int) us->∀ i v,us.toArray[i]? = some v->∃ t,v=Value.int (ns.getD i 0) t:=by
 intro us r i v hv
 have hv:us[i]? = some v:=by simpa using hv
 have hl:i<us.length:=(List.getElem?_eq_some_iff.mp hv).1
 have hn:i<ns.length:=by
  have:=r.length
  rw[List.length_map]at this
  omega
 obtain⟨u,hu,ru⟩:=r.get (i:=i) (x:=V.int ns[i]) (by simp [hn])
 rw[hv]at hu
 cases hu
 obtain⟨t,e⟩:=ru
 exact⟨t,by rw[e]; simp [List.getD,hn]⟩
theorem Cq (hc:X.calm=true):eX X (.builtin "sum") (GB X.K):=by
 intro pins s σ H xs us Q I r h
 obtain⟨p,ns,rfl,hs,q⟩:=h
 cases r with
 | cons r1 r2=>
  cases r2
  cases (show _=Value.ref p from r1)
  have hh:X.A.in1.handled=none:=I.ok.hd hc
  have fin:∀ s',(∀ b o,b ∉ [s.heap.objs.size]->(s.heap.get? b=some o->s'.heap.get? b=some o))->s'.gens=s.gens->s'.os=s.os->∀ t',EP X pins σ Q (.int ns.sum t') s':=fun s' hk hg ho t'=>by
   obtain⟨h',g',d',tk',os'⟩:=s'
   dsimp only at hg ho
   subst hg ho
   refine⟨.int ns.sum,H,I.call (h':=h') (g':=s.gens) (d':=d') (t':=tk') (ch:=[]) (Un.kept fun b u e=>hk b u (by simpa using Nat.ne_of_lt (Heap.lt_size e)) e) (I.hok.kept fun b u e=>hk b u (by simpa using Nat.ne_of_lt (Heap.lt_size e)) e) I.bare (fun b z=>absurd z (by simp)),⟨t',rfl⟩,q⟩
  refine call_sum_walkAnyS ?_
  rcases hs with hs | hs
  ·obtain⟨its,rv,pl,hz⟩:=I.list hs
   have hlen:its.toArray.size=ns.length:=by
    have:=rv.length
    rw[List.length_map]at this
    simp [this]
   have ne:p≠s.heap.objs.size:=by
    obtain⟨o,n,ho,_⟩:=pl
    exact Nat.ne_of_lt (Heap.lt_size ho)
   refine wpAny_pyIter_list pl.isList ⟨s.heap.objs.size,_,_,_,_,_,_,(fun i=>ns.getD i 0),rfl,(Walks.list hh s.heap.objs.size p ne its.toArray).toS,⟨⟨_,Heap.get?_push_size _ rfl,rfl,rfl⟩,?_⟩,?_,fun i v hv=>BZ rv i v hv,fun s' t' mv=>?_⟩
   ·obtain⟨o,n,ho,hc1,hd1,hd2⟩:=pl
    exact⟨o,Heap.get?_push_of_some _ ho,hc1,n,hd2⟩
   ·obtain⟨o,n,ho,_⟩:=pl
    intro b hb
    rw[Heap.size_push]
    rcases List.mem_cons.mp hb with rfl | hb
    ·exact Nat.lt_succ_self _
    ·have:b=p:=by simpa using hb
     subst this
     exact Nat.lt_succ_of_lt (Heap.lt_size ho)
   ·rw[hlen,kY ns _ (Nat.le_refl _),List.take_length]
    exact fin s' (fun b o hb e=>mv.heap b o hb (Heap.get?_push_of_some _ e)) mv.gens mv.os t'
  ·obtain⟨its,rv,pl,hz⟩:=I.tuple hs
   have hlen:its.toArray.size=ns.length:=by
    have:=rv.length
    rw[List.length_map]at this
    simp [this]
   have ne:p≠s.heap.objs.size:=Nat.ne_of_lt pl.lt
   refine wpAny_pyIter_tuple (show s.heap.IsTuple p its.toArray from pl) ⟨s.heap.objs.size,_,_,_,_,_,_,(fun i=>ns.getD i 0),rfl,(Walks.tuple hh s.heap.objs.size p ne its.toArray).toS,⟨⟨_,Heap.get?_push_size _ rfl,rfl,rfl⟩,?_⟩,?_,fun i v hv=>BZ rv i v hv,fun s' t' mv=>?_⟩
   ·obtain⟨o,ho,hc1,n,hd2⟩:=pl
    exact⟨o,Heap.get?_push_of_some _ ho,hc1,n,hd2⟩
   ·intro b hb
    rw[Heap.size_push]
    rcases List.mem_cons.mp hb with rfl | hb
    ·exact Nat.lt_succ_self _
    ·have:b=p:=by simpa using hb
     subst this
     exact Nat.lt_succ_of_lt pl.lt
   ·rw[hlen,kY ns _ (Nat.le_refl _),List.take_length]
    exact fin s' (fun b o hb e=>mv.heap b o hb (Heap.get?_push_of_some _ e)) mv.gens mv.os t'
end
end L2
end
section
namespace L2
open PySem PySem.Spec PyProof.Rows
section
variable {prog:Program} {w:World} {A:Around} {E:Value->Shared->Prop} {s:Shared}
theorem AI {T nid:String} {Bn:Builtin} {as:List Value} {kw:List (Str × Value)} {S:PySem.Spec} {Q:Value->Shared->Prop} (tc:TypeCalled T nid "object.__init__")
  (hct:checkTypeCall T ⟨as,kw⟩=pure ()) (hcn:checkBuiltinCall nid ⟨.type T::as,kw⟩=pure ()) (ent:entryFor table nid=some Bn) (g:Meets (Bn ⟨.type T::as,kw⟩) S)
  (hi:∀ (obj:Value),argsOk "object.__init__" ⟨obj::as,kw⟩) (gi:∀ (obj:Value),Meets (Builtin.«object.__init__» ⟨obj::as,kw⟩) (fun _ R s=>s.TypeIs obj T/\R (.ok (.ret .none)) s))
  (h:S A.in1 (wants (fun obj s₁=>s₁.TypeIs obj T/\Q obj s₁) E) s):wpAny (model prog w) A (call (.type T) as kw) Q E s:=by
 obtain⟨c0,t0,e0⟩:=tc.mro
 have e1:=tc.made
 have e2:=tc.sub
 refine wpAny_call (codeAny_of_tree ?tree)
 case tree=>
  show wpAny _ _ (callAny (.type T) _) _ _ _
  refine wpAny_pure ⟨Code.quiet_builtin _ (by decide +kernel),codeAny_builtin PySem.F.entry_type_call ?inner⟩
  rw[Around.under_plain (weight_type_call_type T as kw) (units_type_call_type T as kw)]
  have e3:=tc.notType
  have e4:=tc.canCreate
  repeat (any_goals (first | assumption | wp_step))
  refine codeAny_mono (codeAny_call_builtin tc.plain ent (wpAny_of_eq hcn (g prog w A.in1 _ s h))) fun r1 s1 q1=>?_
  cases r1 with
  | error ex=>exact q1
  | ok f1=>
   cases f1 with
   | ret ob=>
    have q1':s1.TypeIs ob T/\Q ob s1:=q1
    obtain⟨ty,q2⟩:=q1'
    have e5:=tc.init.lookup
    have e6:=tc.init.bind ob
    repeat (any_goals (first | assumption | wp_step))
    refine codeAny_mono (codeAny_call_builtin tc.init.plain PySem.F.entry_object_init (tc.init.check _ _ _ _ _ _ _ _ ty (hi ob) (gi ob prog w A.in1 (wants (fun r s₂=>r = .none/\Q ob s₂) E) s1 ⟨ty,rfl,q2⟩))) fun r2 s2 q3=>?_
    cases r2 with
    | error ex=>exact q3
    | ok f2=>
     cases f2 with
     | ret rr=>
      obtain⟨rfl,q4⟩:=q3
      repeat (any_goals (first | assumption | wp_step))
     | _=>exact q3.elim
   | _=>exact q1.elim
theorem uQ (a b:Value):checkTypeCall "enumerate" ⟨[a],[("start",b)]⟩=pure ():=by kernel_rfl
theorem x8 (a b:Value):checkBuiltinCall "enumerate.__new__" ⟨[.type "enumerate",a],[("start",b)]⟩=pure ():=by kernel_rfl
theorem zP (l:Addr) (items:Array Value) (n:Nat) (dct:Option Addr) (sl:Array (Option Value)) (t:Tok) :
  Meets (Builtin.«enumerate.__new__» ⟨[.type "enumerate",.ref l],[("start",.int 1 t)]⟩) (fun _ R s=>s.heap.get? l=some { cls:=.type "tuple",dict:=dct,data:=.seq items n,slots:=sl }/\
   R (.ok (.ret (.ref (s.heap.push { cls:=.type "tuple_iterator",data:=.fields #[.ref l,.int 0 0] }).objs.size)))
    { s with heap:=(s.heap.push { cls:=.type "tuple_iterator",data:=.fields #[.ref l,.int 0 0] }).push { cls:=.type "enumerate",data:=.fields #[.none,.bool false,.ref s.heap.objs.size,rawInt 1,.none,.none] } }):=
 .of_wp fun prog w A R s h=>by
  obtain⟨hp,g,d,tk,os⟩:=s
  obtain⟨hl,h⟩:=h
  have z1:=sub_enumerate
  have z2:Heap.IsTuple (Shared.heap ⟨hp,g,d,tk,os⟩) l items:=⟨_,hl,rfl,n,rfl⟩
  wp_walk using AutoSeq1.wpAny_loadPart' hl
  refine wpAny_stack_any fun st=>wpAny_pure ?_
  split
  ·rename_i c _ _ _ _ _
   cases (c == Value.type "enumerate")
   ·wp_walk using AutoSeq1.wpAny_loadPart' hl,wpAny_pyIter_tuple z2
    exact⟨_,rfl,h⟩
   ·wp_walk using AutoSeq1.wpAny_loadPart' hl,wpAny_pyIter_tuple z2
    exact⟨_,rfl,h⟩
  ·wp_walk using AutoSeq1.wpAny_loadPart' hl,wpAny_pyIter_tuple z2
   exact⟨_,rfl,h⟩
theorem FX (obj a b:Value):argsOk "object.__init__" ⟨[obj,a],[("start",b)]⟩:=by
 unfold argsOk
 rw[signature?_of (id:="object.__init__") (n:=['_','_','t','i','n','i','_','_']) (o:=['t','c','e','j','b','o']) (by kernel_rfl) PySem.F.owner_object]
 kernel_rfl
theorem uP (obj a b:Value):Meets (Builtin.«object.__init__» ⟨[obj,a],[("start",b)]⟩) (fun _ R s=>s.TypeIs obj "enumerate"/\R (.ok (.ret .none)) s):=by
 refine Meets.of_wp fun prog w A R s hs=>?_
 obtain⟨ty,q⟩:=hs
 have e1:=PySem.F.called_enumerate.made
 have e2:=PySem.F.called_enumerate.init.lookup
 repeat (any_goals (first | assumption | wp_step))
 exact⟨_,rfl,q⟩
end
end L2
end
section
namespace L2
open PySem PySem.Spec PyProof.Rows
section
variable {prog:Program} {w:World} {A:Around} {E:Value->Shared->Prop} {s:Shared}
theorem FR {it t:Addr} {i:Nat} {items:Array Value} {x:Value} {Q:Value->Shared->Prop} (hit:s.heap.IsTupleIter it t i) (ht:s.heap.IsTuple t items) (hx:items[i]? = some x)
  (hQ:∀ h',h'.IsTupleIter it t (i+1)->Heap.SameBut it s.heap h'->Q x { s with heap:=h' }):wpAny (model prog w) A (Builtin.SmallTypes.nextOf (.ref it)) Q E s:=by
 obtain⟨oi,hoi,hci,hdi⟩:=id hit
 obtain⟨ot,hot,_,nt,hdt⟩:=ht
 unfold Builtin.SmallTypes.nextOf
 refine wpAny_bind (wpAny_callSpecial?_slot (name:=Str.ofString "__next__") hit.typeIs PySem.F.slot_tuple_iterator_next (wpAny_call_entry PySem.F.slot_tuple_iterator_next hit.typeIs PySem.F.entry_tuple_iterator_next ?nx (PySem.F.args_tuple_iterator_next_1 _)))
 case nx=>
  show wpAny _ _ (field (.ref it) 0 >>= _) _ _ s
  refine wpAny_bind (wpAny_field hoi hdi (x:=.ref t) rfl ?_)
  show wpAny _ _ (if (Value.ref t == Value.none)=true then _ else _) _ _ s
  rw[if_neg (show ¬ ((Value.ref t == Value.none)=true) from Bool.false_ne_true)]
  show wpAny _ _ (field (.ref it) 1 >>= _) _ _ s
  refine wpAny_bind (wpAny_field hoi hdi (x:=.int i 0) rfl ?_)
  show wpAny _ _ (seqItems? (.ref t) >>= _) _ _ s
  refine wpAny_bind (wpAny_seqItems hot hdt ?_)
  simp only[Int.toNat_natCast,hx]
  refine wpAny_bind (wpAny_setField hoi hdi (by simp) (wpAny_pure ⟨x,rfl,wpAny_pure (hQ _ ⟨_,Heap.get?_update_self _ hoi (Obj.isFreed_of_fields (Obj.data_mapFields hdi _)),(Obj.cls_mapFields ..).trans hci,?_⟩ (Heap.SameBut.update ..))⟩))
  rw[Obj.data_mapFields hdi]
  simp [rawInt]
theorem EK {e it t:Addr} {i:Nat} {lo:Int} {items:Array Value} {x old:Value} {Q:Option Value->Shared->Prop}
  (he:IsEnum s.heap e it (lo+i) old) (hit:s.heap.IsTupleIter it t i) (ht:s.heap.IsTuple t items) (hx:items[i]? = some x) (hne:e≠it)
  (hQ:∀ h',IsEnumOut h' e it (lo+i+1) x s.heap.objs.size->h'.IsTupleIter it t (i+1)->
   h'.get? s.heap.objs.size=some { cls:=.type "tuple",data:=.seq #[.int (lo+i) s.toks,x] }->(∀ b o,b≠e->b≠it->s.heap.get? b=some o->h'.get? b=some o)->
   Q (some (.ref s.heap.objs.size)) { s with heap:=h',toks:=s.toks+1 }):wpAny (model prog w) A (pyNext (.ref e)) Q E s:=by
 have ty:s.TypeIs (.ref e) "enumerate":=⟨_,he,rfl⟩
 unfold pyNext
 refine wpAny_bind (wpAny_attempt (wpAny_callSpecial?_slot (name:=Str.ofString "__next__") ty PySem.F.slot_enumerate_next (wpAny_call_entry PySem.F.slot_enumerate_next ty PySem.F.entry_enumerate_next ?nx (PySem.F.args_enumerate_next_1 _))))
 case nx=>
  obtain⟨hp,g,d,tk,os⟩:=s
  show wpAny _ _ (field (.ref e) 2 >>= _) _ _ _
  refine wpAny_bind (wpAny_field he rfl (x:=.ref it) rfl ?_)
  refine wpAny_bind (FR hit ht hx fun k1 hit1 sb1=>?_)
  replace sb1:Heap.SameBut it hp k1:=sb1
  have g1:IsEnum k1 e it (lo+i) old:=(sb1.2 e hne).trans he
  show wpAny _ _ (field (.ref e) 3 >>= _) _ _ ⟨k1,g,d,tk,os⟩
  refine wpAny_bind (wpAny_field g1 rfl (x:=rawInt (lo+i)) rfl ?_)
  show wpAny _ _ (field (.ref e) 4 >>= _) _ _ ⟨k1,g,d,tk,os⟩
  refine wpAny_bind (wpAny_field g1 rfl (x:=.none) rfl ?_)
  show wpAny _ _ (mkInt (lo+i) >>= _) _ _ ⟨k1,g,d,tk,os⟩
  refine wpAny_bind (wpAny_mkInt ?_)
  show wpAny _ _ (setField (.ref e) 3 (rawInt (lo+i+1)) >>= _) _ _ ⟨k1,g,d,tk+1,os⟩
  refine wpAny_bind (wpAny_setField_rec g1 (by simp) fun k2 g2 sb2=>?_)
  replace sb2:Heap.SameBut e k1 k2:=sb2
  replace g2:IsEnum k2 e it (lo+i+1) old:=g2
  show wpAny _ _ (setField (.ref e) 4 .none >>= _) _ _ ⟨k2,g,d,tk+1,os⟩
  refine wpAny_bind (wpAny_setField_rec g2 (by simp) fun k3 g3 sb3=>?_)
  replace sb3:Heap.SameBut e k2 k3:=sb3
  replace g3:IsEnum k3 e it (lo+i+1) old:=g3
  show wpAny _ _ (newTuple [.int (lo+i) tk,x] >>= _) _ _ ⟨k3,g,d,tk+1,os⟩
  refine wpAny_bind (wpAny_newTuple ?_)
  have g4:IsEnum (k3.push { cls:=.type "tuple",data:=.seq #[.int (lo+i) tk,x] }) e it (lo+i+1) old:=Heap.get?_push_of_some _ g3
  generalize hk4:k3.push { cls:=.type "tuple",data:=.seq #[.int (lo+i) tk,x] }=k4 at g4
  have sz:k3.objs.size=hp.objs.size:=by rw[sb3.1,sb2.1,sb1.1]
  have el:e<hp.objs.size:=Heap.lt_size he
  have t4:k4.get? hp.objs.size=some { cls:=.type "tuple",data:=.seq #[.int (lo+i) tk,x] }:=by
   rw[<- hk4,<- sz]
   exact Heap.get?_push_size _ rfl
  have kp4:∀ b o,b≠e->b≠it->hp.get? b=some o->k4.get? b=some o:=fun b o n1 n2 q=>by
   rw[<- hk4]
   exact Heap.get?_push_of_some _ (sb3.extBut b o n1 (sb2.extBut b o n1 (sb1.extBut b o n2 q)))
  have hit4:k4.IsTupleIter it t (i+1):=by
   obtain⟨o,ho,r⟩:=hit1
   rw[<- hk4]
   exact⟨o,Heap.get?_push_of_some _ (sb3.extBut it o (Ne.symm hne) (sb2.extBut it o (Ne.symm hne) ho)),r⟩
  show wpAny _ _ (Builtin.SmallTypes.ownedTupleIsFree (.ref e) >>= _) _ _ ⟨k4,g,d,tk+1,os⟩
  rw[sz]
  clear hk4 g3 sb3 g2 sb2 g1 sb1 hit1 sz k3 k2 k1
  refine wpAny_bind ?_
  unfold Builtin.SmallTypes.ownedTupleIsFree
  refine wpAny_bind (wpAny_field g4 rfl (x:=.none) rfl (wpAny_pure ?_))
  simp only[if_true]
  refine wpAny_bind (wpAny_rule ?_)
  refine wpAny_bind (wpAny_field g4 rfl (x:=old) rfl ?_)
  refine wpAny_bind (wpAny_setField_rec g4 (by simp) fun k5 g5 sb5=>?_)
  replace sb5:Heap.SameBut e k4 k5:=sb5
  replace g5:IsEnum k5 e it (lo+i+1) x:=g5
  show wpAny _ _ (Builtin.SmallTypes.ownedTupleHandOut (.ref e) (.ref hp.objs.size) >>= _) _ _ ⟨k5,g,d,tk+1,os⟩
  refine wpAny_bind ?_
  unfold Builtin.SmallTypes.ownedTupleHandOut
  refine wpAny_bind (wpAny_setField_rec g5 (by simp) fun k6 g6 sb6=>?_)
  replace sb6:Heap.SameBut e k5 k6:=sb6
  replace g6:IsEnumOut k6 e it (lo+i+1) x hp.objs.size:=g6
  refine wpAny_setField_rec g6 (by simp) fun k7 g7 sb7=>?_
  replace sb7:Heap.SameBut e k6 k7:=sb7
  replace g7:IsEnumOut k7 e it (lo+i+1) x hp.objs.size:=g7
  refine wpAny_bind (wpAny_letGo (wpAny_pure ⟨_,rfl,wpAny_pure (hQ k7 g7 ?_ ?_ ?_)⟩))
  ·obtain⟨o,ho,r⟩:=hit4
   exact⟨o,sb7.extBut it o (Ne.symm hne) (sb6.extBut it o (Ne.symm hne) (sb5.extBut it o (Ne.symm hne) ho)),r⟩
  ·exact sb7.extBut _ _ (Nat.ne_of_gt el) (sb6.extBut _ _ (Nat.ne_of_gt el) (sb5.extBut _ _ (Nat.ne_of_gt el) t4))
  ·exact fun b o n1 n2 q=>sb7.extBut b o n1 (sb6.extBut b o n1 (sb5.extBut b o n1 (kp4 b o n1 n2 q)))
theorem Fa {e it t:Addr} {i:Nat} {lo:Int} {items:Array Value} {old:Value} {Q:Option Value->Shared->Prop} (hh:A.handled=none)
  (he:IsEnum s.heap e it lo old) (hit:s.heap.IsTupleIter it t i) (ht:s.heap.IsTuple t items) (hx:items[i]? = none)
  (hQ:∀ h',Heap.ExtBut it s.heap h'->Q none { s with heap:=h' }):wpAny (model prog w) A (pyNext (.ref e)) Q E s:=by
 have ty:s.TypeIs (.ref e) "enumerate":=⟨_,he,rfl⟩
 obtain⟨oi,hoi,hci,hdi⟩:=id hit
 obtain⟨ot,hot,_,nt,hdt⟩:=ht
 unfold pyNext
 refine wpAny_bind (wpAny_attempt (wpAny_callSpecial?_slot (name:=Str.ofString "__next__") ty PySem.F.slot_enumerate_next (wpAny_call_entry PySem.F.slot_enumerate_next ty PySem.F.entry_enumerate_next ?nx (PySem.F.args_enumerate_next_1 _))))
 case nx=>
  show wpAny _ _ (field (.ref e) 2 >>= _) _ _ _
  refine wpAny_bind (wpAny_field he rfl (x:=.ref it) rfl ?_)
  refine wpAny_bind ?_
  unfold Builtin.SmallTypes.nextOf
  refine wpAny_bind (wpAny_callSpecial?_slot (name:=Str.ofString "__next__") hit.typeIs PySem.F.slot_tuple_iterator_next (wpAny_call_entry PySem.F.slot_tuple_iterator_next hit.typeIs PySem.F.entry_tuple_iterator_next ?nx2 (PySem.F.args_tuple_iterator_next_1 _)))
  case nx2=>
   show wpAny _ _ (field (.ref it) 0 >>= _) _ _ s
   refine wpAny_bind (wpAny_field hoi hdi (x:=.ref t) rfl ?_)
   show wpAny _ _ (if (Value.ref t == Value.none)=true then _ else _) _ _ s
   rw[if_neg (show ¬ ((Value.ref t == Value.none)=true) from Bool.false_ne_true)]
   show wpAny _ _ (field (.ref it) 1 >>= _) _ _ s
   refine wpAny_bind (wpAny_field hoi hdi (x:=.int i 0) rfl ?_)
   show wpAny _ _ (seqItems? (.ref t) >>= _) _ _ s
   refine wpAny_bind (wpAny_seqItems hot hdt ?_)
   simp only[Int.toNat_natCast,hx]
   refine wpAny_bind (wpAny_rule (wpAny_bind (wpAny_setField hoi hdi (by simp) ?_)))
   show wpAny _ _ (newExc (.type "StopIteration") [] >>= _) _ _ _
   refine wpAny_bind ?_
   simp only[newExc,newTuple]
   refine wpAny_bind (wpAny_newObj_type ?_ (by size_fits))
   refine wpAny_bind (m:=firstArgMember _ _) (wpAny_of_eq (a:=Value.none) (by first | rfl | (simp only[firstArgMember]; rfl)) ?_)
   refine wpAny_newObj_type ?_ (by size_fits)
   simp only[raiseNew]
   refine wpAny_bind (wpAny_handled ?_)
   first | rw[show A.in1.handled=none from hh] | rw[show A.in1.in1.handled=none from hh] | rw[hh]
   refine wpAny_bind (wpAny_pure (wpAny_throw ?_))
   refine wpAny_bind (wpAny_isInstance (T:="StopIteration") (b:=true) ⟨_,Heap.get?_push_size _ rfl,rfl⟩ isSubtype_stop ?_)
   exact wpAny_pure (hQ _ (((Heap.SameBut.update ..).extBut.push _).push _))
end
noncomputable def Ite (K:PySem.W.Frag) (lo:Int) (a:Addr):It:=
 ⟨fun i H=>∃ xs x,SqT K H a xs/\xs[i]? = some x,fun i H x H'=>∃ p v,x = .ref p/\H p=none/\H'=upd H p (.tup [.int (lo+i),v])/\∀ xs,SqT K H a xs->xs[i]? = some v,fun i H=>∃ xs,SqT K H a xs/\xs.length<=i⟩
section
variable {X:Cx} {pins:List (Addr × Obj)} {σ : St} {H:Hp} {s:Shared}
theorem Inv.turned2 {t':Nat} {e it p:Addr} {xs:List V} {h':Heap} (I:Inv X pins σ H s) (fe:qM X pins H e) (fi:qM X pins H it) (hp:s.heap.objs.size<=p) (k:∀ b o,b≠e->b≠it->s.heap.get? b=some o->h'.get? b=some o)
  (th:(∃ o,h'.get? e=some o)/\∃ o,h'.get? it=some o) (new:dI X.prog X.w (upd H p (.tup xs)) h' p (.tup xs)):Inv X pins σ (upd H p (.tup xs)) { s with heap:=h',toks:=t' }:=by
 have hn:=I.hok.fresh hp
 have np:∀ b o,s.heap.get? b=some o->b≠p:=fun b o q=>Nat.ne_of_lt (Nat.lt_of_lt_of_le (Heap.lt_size q) hp)
 refine I.call' (s':={ s with heap:=h',toks:=t' }) (ch:=[e,it]) rfl ⟨fun b o q n _ hc=>?_,fun b o q n _ hc=>⟨o.slots,?_⟩,fun b o q n _=>?_,fun b o q hc=>⟨o,?_⟩,fun b ys q=>?_,fun b u ys q=>?_,fun b ps q=>⟨#[],?_⟩⟩ ?_ I.bare fun b hb=>?_
 ·exact k b o (fun z=>hc (by simp [z])) (fun z=>hc (by simp [z])) q
 ·exact k b o (fun z=>hc (by simp [z])) (fun z=>hc (by simp [z])) q
 ·rw[aG (np b o q)]
  exact n
 ·exact k b o (fun z=>hc (by simp [z])) (fun z=>hc (by simp [z])) q
 ·rw[aG (aY q hn)]
  exact q
 ·rw[aG (aY q hn)]
  exact q
 ·rw[aG (aY q hn),q]
  simp
 ·intro b u q
  by_cases hb:b=p
  ·subst hb
   rw[aE]at q
   cases q
   exact new
  ·rw[aG hb]at q
   refine(I.hok b u q).stay (fun c v hc r=>k c v ?_ ?_ r) (fun c r=>by rw[aG (aY r hn)]; exact r) fun c ys r=>by rw[aG (aY r hn)]; exact r
   ·rintro rfl
    rcases hc with hc | hc
    ·rw[<- hc,fe.1]at q; cases q
    ·rw[fe.1]at hc; cases hc
   ·rintro rfl
    rcases hc with hc | hc
    ·rw[<- hc,fi.1]at q; cases q
    ·rw[fi.1]at hc; cases hc
 ·rcases List.mem_cons.mp hb with rfl | hb
  ·exact⟨fe.2.2.2.1,fe.2.1,fe.2.2.2.2.1,fe.2.2.2.2.2⟩
  ·have:b=it:=by simpa using hb
   subst this
   exact⟨fi.2.2.2.1,fi.2.1,fi.2.2.2.2.1,fi.2.2.2.2.2⟩
theorem Bx {P:Program} {w:World} {K:PySem.W.Frag} {elts:List Expr} {x1:Nat} {tp:Pos} (lo:Int) (a e it:Addr) (hne:e≠it) :
  Turn P w K (.Tuple elts x1 tp) (Ite K lo a) [e,it] e (fun i h=>(∃ old,IsEnum h e it (lo+(i:Nat)) old)/\h.IsTupleIter it a i) where
 mem:=by simp
 obj:=fun i h st b hb=>by
  obtain⟨⟨old,he⟩,o,ho,hc,hd⟩:=st
  rcases List.mem_cons.mp hb with rfl | hb
  ·exact⟨_,he,fun v z=>by cases (show Data.fields _=Data.cell v from z)⟩
  ·have:b=it:=by simpa using hb
   subst this
   exact⟨o,ho,fun v z=>by rw[hd]at z; cases z⟩
 keep:=fun i h h' st k=>by
  obtain⟨⟨old,he⟩,o,ho,r⟩:=st
  exact⟨⟨old,k e (by simp) _ he⟩,o,k it (by simp) _ ho,r⟩
 item:=by
  intro X hP hw hK hc i pins s σ H E I hf st hg
  subst hP hw hK
  obtain⟨⟨old,he⟩,hit⟩:=st
  obtain⟨xs,x,hq,hx⟩:=hg
  obtain⟨its,rv,p,hz⟩:=I.tuple hq
  obtain⟨u,hu,ru⟩:=rv.get hx
  refine EK he hit (show s.heap.IsTuple a its.toArray from p) (x:=u) (by simpa using hu) hne fun h' ho hit' ht kp=>⟨.ref s.heap.objs.size,rfl,?_⟩
  refine wpAny_letOwnedTupleGo_enum ho fun h2 he2 sb2=>?_
  have el:e<s.heap.objs.size:=Heap.lt_size he
  have il:it<s.heap.objs.size:=by
   obtain⟨o,ho',_⟩:=hit
   exact Heap.lt_size ho'
  have t2:h2.get? s.heap.objs.size=some { cls:=.type "tuple",data:=.seq #[.int (lo+i) s.toks,u] }:=(sb2.2 _ (Nat.ne_of_gt el)).trans ht
  have hit2:h2.IsTupleIter it a (i+1):=by
   obtain⟨o,ho',r⟩:=hit'
   exact⟨o,(sb2.2 it (Ne.symm hne)).trans ho',r⟩
  have eqi:lo+(i:Int)+1=lo+((i+1:Nat):Int):=by omega
  refine⟨.ref s.heap.objs.size,upd H s.heap.objs.size (.tup [.int (lo+i),x]),?_,rfl,⟨_,x,rfl,I.hok.fresh (Nat.le_refl _),rfl,fun ys hy=>by rw[I.tuple_inj hy hq]; exact hx⟩,⟨⟨u,by rw[<- eqi]; exact he2⟩,hit2⟩,fun b hb=>?_⟩
  ·refine I.turned2 (t':=s.toks+1) (hf e (by simp)) (hf it (by simp)) (Nat.le_refl _) (fun b o n1 n2 q=>(sb2.2 b n1).trans (kp b o n1 n2 q)) ⟨⟨_,he2⟩,let ⟨o,h,_⟩:=hit2; ⟨o,h⟩⟩ ?_
   refine⟨(by show 2<=sizeLine; decide),[.int (lo+i) s.toks,u],.cons ⟨_,rfl⟩ (.cons ru .nil),⟨_,t2,rfl,_,rfl⟩⟩
  ·rw[aG ?_]
   ·exact(hf b hb).1
   ·rcases List.mem_cons.mp hb with rfl | hb
    ·exact Nat.ne_of_lt el
    ·have:b=it:=by simpa using hb
     subst this
     exact Nat.ne_of_lt il
 done:=by
  intro X hP hw hK hc i pins s σ H E I hf st hg
  subst hP hw hK
  obtain⟨⟨old,he⟩,hit⟩:=st
  obtain⟨xs,hq,hx⟩:=hg
  obtain⟨its,rv,p,hz⟩:=I.tuple hq
  obtain⟨f0,f1,f2,f3,f4,f5⟩:=hf it (by simp)
  have hl:=rv.length
  exact Fa (I.ok.hd hc) he hit (show s.heap.IsTuple a its.toArray from p) (by simp; omega) fun h' eb=>⟨rfl,I.turned (t':=s.toks) (fun b o hb e=>eb b o hb e) f0 f1 f3 f4 f5⟩
 self:=fun A i s Q E st h=>by
  obtain⟨⟨old,he⟩,_⟩:=st
  exact wpAny_pyIter_enum he h
noncomputable def Ft (K:PySem.W.Frag) (lo:Int) (ta:TE):TI:=fun σ H R=>ta σ H fun x H1=>∃ a xs,x = .ref a/\SqT K H1 a xs/\R (Ite K lo a) H1
theorem EJ {tg:Expr} {elts:List Expr} {x1:Nat} {tp:Pos} {R:It->Hp->Prop} {lo:Int} {a:Addr} {E:Value->Shared->Prop} {tk:Nat} (I:Inv X pins σ H s) (q:R (Ite X.K lo a) H) :
  wpAny (model X.prog X.w) X.A (pyIter (.ref (s.heap.objs.size+1))) (PIE X pins σ (.Tuple elts x1 tp) R) E
   { s with heap:=(s.heap.push { cls:=.type "tuple_iterator",data:=.fields #[.ref a,.int 0 0] }).push { cls:=.type "enumerate",data:=.fields #[.none,.bool false,.ref s.heap.objs.size,rawInt lo,.none,.none] },toks:=tk }:=by
 have z:(s.heap.push { cls:=.type "tuple_iterator",data:=.fields #[.ref a,.int 0 0] }).objs.size=s.heap.objs.size+1:=Heap.size_push _ _
 have he:IsEnum ((s.heap.push { cls:=.type "tuple_iterator",data:=.fields #[.ref a,.int 0 0] }).push { cls:=.type "enumerate",data:=.fields #[.none,.bool false,.ref s.heap.objs.size,rawInt lo,.none,.none] }) (s.heap.objs.size+1) s.heap.objs.size lo .none:=by
  have q:=Heap.get?_push_size (s.heap.push { cls:=.type "tuple_iterator",data:=.fields #[.ref a,.int 0 0] }) (o:={ cls:=.type "enumerate",data:=.fields #[.none,.bool false,.ref s.heap.objs.size,rawInt lo,.none,.none] }) rfl
  rw[z]at q
  exact q
 have I1:Inv X pins σ H { s with heap:=(s.heap.push { cls:=.type "tuple_iterator",data:=.fields #[.ref a,.int 0 0] }).push { cls:=.type "enumerate",data:=.fields #[.none,.bool false,.ref s.heap.objs.size,rawInt lo,.none,.none] },toks:=tk }:=
  I.kept fun b o e=>Heap.get?_push_of_some _ (Heap.get?_push_of_some _ e)
 refine wpAny_pyIter_enum he ⟨s.heap.objs.size+1,[s.heap.objs.size+1,s.heap.objs.size],_,Ite X.K lo a,H,rfl,I1,Bx lo a _ _ (Nat.ne_of_gt (Nat.lt_succ_self _)),⟨⟨.none,by simpa using he⟩,⟨_,Heap.get?_push_of_some _ (Heap.get?_push_size _ rfl),rfl,rfl⟩⟩,fun b hb=>?_,q⟩
 rcases List.mem_cons.mp hb with rfl | hb
 ·exact I.fpOk (Nat.le_succ _) (I.hok.fresh (Nat.le_succ _))
 ·have:b=s.heap.objs.size:=by simpa using hb
  subst this
  exact I.fpOk (Nat.le_refl _) (I.hok.fresh (Nat.le_refl _))
theorem EU {M:Model} {A:Around} {E:Value->Shared->Prop} {s:Shared} {pos:Pos} {T:String} {x:Sem Value} {rest:List (Bool × Sem Value)} {kws:List (Option Str × Sem Value)} {Q:Value->Shared->Prop} (h1:rest.any (·.1)=false) (h2:kws.any (·.1.isNone)=false) (h3:kws.all (·.1.isSome)=true)
  (h:wpAny M A (spliced ((false,x)::rest)) (fun vs s₁=>wpAny M A (evalAll (kws.map (·.2))) (fun ws s₂=>wpAny M A (call (.type T) vs ((kws.filterMap (·.1)).zip ws)) Q E s₂) E s₁) E s):wpAny M A (callWith pos (.type T) [] ((false,x)::rest) kws) Q E s:=by
 unfold callWith
 refine wpAny_bind (wpAny_holding (evalArgs_kwB h3 (wpAny_mono h (fun vs s1 q1=>wpAny_mono q1 (fun ws s2 q2=>wpAny_bind (wpAny_standAt ?_)) fun _ _ y=>y) fun _ _ y=>y)))
 have h4:(((false,x)::rest).any (·.1))=false:=by
  rw[List.any_cons,h1]
  rfl
 simp only[h4,h2,Bool.or_false]
 refine wpAny_bind (wpAny_pure ?_)
 exact wpAny_bind (wpAny_mono q2 (fun r s3 q3=>wpAny_bind (wpAny_holding (wpAny_point (wpAny_pure q3)))) fun _ _ y=>y)
theorem DW {ex:Expr} {elts:List Expr} {x1 k:Nat} {tp p pos cp kp:Pos} {ta:TE} (hm:X.mg "enumerate" = none) (ha:PE X ex ta) (hg:Gl X "enumerate":=by rfl) (hs:starEach [ex] X.env=[(false,eval ex X.env)]:=by rfl) :
  PI X (.Tuple elts x1 tp) (.Call (.Name "enumerate" p) [ex] [⟨some "start",.Constant (.int 1) k cp,kp⟩] pos) (Ft X.K 1 ta):=by
 intro pins s σ H R I h
 refine wpAny_Call_Name_kw (mX I hg hm boot_enumerate ?_)
 rw[hs]
 refine EU (x:=eval ex X.env) (rest:=[]) rfl rfl rfl ?_
 have ha':=fS ha aB hs pos pins s σ H (fun vs H1=>∃ a xs,vs=[V.ref a]/\SqT X.K H1 a xs/\R (Ite X.K 1 a) H1) I (by
  have e:(fun(x:V) (H1:Hp)=>eQ σ H1 fun xs H2=>∃ a ys,x::xs=[V.ref a]/\SqT X.K H2 a ys/\R (Ite X.K 1 a) H2)=fun x H1=>∃ a xs,x = .ref a/\SqT X.K H1 a xs/\R (Ite X.K 1 a) H1:=by
   funext x H1
   simp only[eQ,List.cons.injEq,and_true]
  show ta σ H (fun x H1=>eQ σ H1 fun xs H2=>_)
  rw[e]
  exact h)
 rw[hs]at ha'
 refine thn ha' fun us s1 zQq=>?_
 obtain⟨vs,H1,I1,r1,q1⟩:=zQq
 refine kws_cons (wpAny_Constant_int ?_)
 refine kws_nil ?_
 obtain⟨a,xs,e,hq,q⟩:=q1
 subst e
 cases r1 with
 | cons r rr=>
  cases rr
  cases (show _=Value.ref a from r)
  have I2:=I1.tok (s1.toks+1)
  obtain⟨its,rv,⟨⟨c,dd,dt,sl⟩,ho,hc1,n,hd1⟩,hz⟩:=I2.tuple hq
  dsimp only at hc1 hd1
  subst hc1 hd1
  refine AI (kw:=[("start",_)]) PySem.F.called_enumerate (uQ _ _) (x8 _ _) PySem.F.entry_enumerate_new (zP a _ n dd sl _) (fun obj=>FX obj _ _) (fun obj=>uP obj _ _) ⟨ho,⟨_,Heap.get?_push_size _ rfl,rfl⟩,?_⟩
  rw[Heap.size_push]
  exact EJ (tg:=ex) (tk:=s1.toks+1) I2 q
end
end L2
end
section
namespace L2
open PySem PySem.Spec PyProof.Rows
section
variable {X:Cx}
noncomputable def rAll (K:PySem.W.Frag):List V->Hp->VK->Prop:=fun xs H Q=>∃ (p:Addr) (bs:List Bool),xs=[.ref p]/\SqL K H p (bs.map V.bl)/\Q (.bl (bs.all id)) H
theorem EZ {bs:List Bool}:∀ {us:List Value},bQ (bs.map V.bl) us->∀ i v,us.toArray[i]? = some v->v=Value.bool (bs.getD i false):=by
 intro us r i v hv
 have hv:us[i]? = some v:=by simpa using hv
 have hl:i<us.length:=(List.getElem?_eq_some_iff.mp hv).1
 have hn:i<bs.length:=by
  have:=r.length
  rw[List.length_map]at this
  omega
 obtain⟨u,hu,ru⟩:=r.get (i:=i) (x:=V.bl bs[i]) (by simp [hn])
 rw[hv]at hu
 cases hu
 have e:v=Value.bool bs[i]:=ru
 rw[e]
 simp [List.getD,hn]
theorem Ei (bs:List Bool):((List.range bs.length).all fun i=>bs.getD i false)=bs.all id:=by
 rw[Bool.eq_iff_iff,List.all_eq_true,List.all_eq_true]
 constructor
 ·intro h b hb
  obtain⟨i,hi,e⟩:=List.mem_iff_getElem.mp hb
  have:=h i (List.mem_range.mpr hi)
  simp [List.getD,hi,e]at this
  simpa using this
 ·intro h i hi
  have hi:=List.mem_range.mp hi
  have:=h bs[i] (List.getElem_mem hi)
  simpa [List.getD,hi] using this
theorem Cr (hc:X.calm=true):eX X (.builtin "all") (rAll X.K):=by
 intro pins s σ H xs us Q I r h
 obtain⟨p,bs,rfl,hs,q⟩:=h
 cases r with
 | cons r1 r2=>
  cases r2
  cases (show _=Value.ref p from r1)
  have hh:X.A.in1.handled=none:=I.ok.hd hc
  refine call_all_walk ?_
  obtain⟨its,rv,pl,hz⟩:=I.list hs
  have hlen:its.toArray.size=bs.length:=by
   have:=rv.length
   rw[List.length_map]at this
   simp [this]
  have ne:p≠s.heap.objs.size:=by
   obtain⟨o,n,ho,_⟩:=pl
   exact Nat.ne_of_lt (Heap.lt_size ho)
  refine wpAny_pyIter_list pl.isList ⟨s.heap.objs.size,_,_,_,_,_,(fun i=>bs.getD i false),rfl,Walks.list hh s.heap.objs.size p ne its.toArray,⟨⟨_,Heap.get?_push_size _ rfl,rfl,rfl⟩,?_⟩,fun i v s' Q' E' hv hq=>?_,fun h' tk hk=>?_⟩
  ·obtain⟨o,n,ho,hc1,hd1,hd2⟩:=pl
   exact⟨o,Heap.get?_push_of_some _ ho,hc1,n,hd2⟩
  ·rw[EZ rv i v hv]
   exact wpAny_truthy_bool hq
  ·rw[hlen,Ei]
   refine⟨.bl _,H,I.kept (t':=tk) fun b u e=>hk b u (by simpa using Nat.ne_of_lt (Heap.lt_size e)) (Heap.get?_push_of_some _ e),rfl,q⟩
theorem GA {M:Model} {A:Around} {E:Value->Shared->Prop} {s:Shared} {β : Type} {hi:Nat} (f:Nat->β->Sem (ForInStep β)) (I:List Nat->β->Shared->Prop) (Q:β->Shared->Prop)
  (turn:∀ x rest b s,I (x::rest) b s->wpAny M A (f x b) (fun r s'=>match r with | .yield b'=>I rest b' s' | .done b'=>Q b' s') E s)
  (fin:∀ b s,I [] b s->Q b s) (b:β) (h:I (List.range' 0 hi) b s):wpAny M A (forIn [0:hi] b f) Q E s:=by
 rw[Std.Legacy.Range.forIn_eq_forIn_range']
 refine wpAny_forIn_list f I Q turn fin _ b ?_
 simpa [Std.Legacy.Range.size] using h
theorem rE (l:Addr) (items:Array Value) (n:Nat) (dd:Option Addr) (sl:Array (Option Value)) (x:Value) (e:Value->Bool) (j:Nat) (hj:j<items.size) (hy:e items[j]=true) (hn:∀ i (h:i<j),e items[i]=false) :
  Meets (Builtin.«tuple.index» ⟨[.ref l,x],[]⟩) (fun A R s=>s.heap.get? l=some { cls:=.type "tuple",dict:=dd,data:=.seq items n,slots:=sl }/\(∀ y,y∈items->SeqAt.EqAt A.in1 s y x (e y))/\R (.ok (.ret (.int j s.toks))) { s with toks:=s.toks+1 }):=
 .of_wp fun prog w A R s h=>by
  obtain⟨hp,g,d,tk,os⟩:=s
  obtain⟨hl,he,h⟩:=h
  wp_walk using AutoSeq1.wpAny_loadPart' hl,GA _ (fun rest b s'=>b.1=none/\s'=⟨hp,g,d,tk,os⟩/\∃ i,i<=j/\rest=List.range' i (items.size - i)) _
  case turn=>
   rintro y rest b s' ⟨hb,rfl,i,hi,hr⟩
   have hlt:i<items.size:=by omega
   have e1:items.size - i=(items.size - (i+1))+1:=by omega
   rw[e1,List.range'_succ]at hr
   obtain⟨rfl,rfl⟩:=List.cons.inj hr
   have hg:items[y]? = some items[y]:=by simp [hlt]
   rw[hg]
   dsimp only
   refine wpAny_bind (he items[y] (Array.getElem_mem hlt) prog w _ _ ?_)
   by_cases hyj:y=j
   ·subst hyj
    rw[hy]
    wp_walk
    exact⟨_,rfl,h⟩
   ·rw[hn y (by omega)]
    wp_walk
    exact⟨rfl,rfl,y+1,by omega,rfl⟩
  case fin=>
   rintro ⟨b1,b2⟩ s' ⟨hb,rfl,i,hi,hr⟩
   have:(List.range' i (items.size - i)).length=0:=by rw[<- hr]; rfl
   rw[List.length_range']at this
   omega
  case h=>
   refine⟨rfl,rfl,0,Nat.zero_le _,?_⟩
   simp
noncomputable def DO (K:PySem.W.Frag):V->List V->Hp->VK->Prop:=fun x vs H Q=>∃ (a:Addr) (ks:List Str) (k:Str) (j:Nat),x = .ref a/\vs=[.str k]/\SqT K H a (ks.map V.str)/\ks[j]? = some k/\(∀ i,i<j->ks[i]? ≠ some k)/\Q (.int j) H
theorem Dq:MtR X "tuple.index" (DO X.K):=by
 intro pins s σ H x vs v us Q I rx rv h
 obtain⟨a,ks,k,j,rfl,rfl,hs,hj,hn,q⟩:=h
 cases (show v=Value.ref a from rx)
 cases rv with
 | cons r1 r2=>
  cases r2
  obtain⟨t,e⟩:=r1
  subst e
  obtain⟨its,rv,⟨⟨c,dd,dt,sl⟩,ho,hc1,n,hd1⟩,hz⟩:=I.tuple hs
  dsimp only at hc1 hd1
  subst hc1 hd1
  have hlen:its.length=ks.length:=by
   have:=rv.length
   rw[List.length_map]at this
   exact this.symm
  have hjl:j<ks.length:=(List.getElem?_eq_some_iff.mp hj).1
  have at_:∀ i (h:i<ks.length),∃ t,its[i]? = some (Value.str ks[i] t):=fun i h=>by
   obtain⟨u,hu,ru⟩:=rv.get (i:=i) (x:=V.str ks[i]) (by simp [h])
   obtain⟨t,e⟩:=ru
   exact⟨t,by rw[hu,e]⟩
  refine call_meets PySem.F.slot_tuple_index ⟨_,ho,rfl⟩ PySem.F.entry_tuple_index (PySem.F.args_tuple_index_2 _ _)
   (rE a its.toArray n dd sl (.str k t) (fun v=>match v with | .str y _=>y == k | _=>false) j (by simpa [hlen] using hjl) ?_ ?_) ⟨ho,fun y hy=>?_,?_⟩
  ·obtain⟨t',e⟩:=at_ j hjl
   have e2:its.toArray[j]'(by simpa [hlen] using hjl)=Value.str ks[j] t':=by
    have:=List.getElem?_eq_some_iff.mp e
    simpa using this.2
   rw[e2]
   have:ks[j]=k:=by
    have:=List.getElem?_eq_some_iff.mp hj
    exact this.2
   simp [this]
  ·intro i hi
   have hil:i<ks.length:=by omega
   obtain⟨t',e⟩:=at_ i hil
   have e2:its.toArray[i]'(by simp [hlen]; omega)=Value.str ks[i] t':=by
    have:=List.getElem?_eq_some_iff.mp e
    simpa using this.2
   rw[e2]
   have ne:ks[i]≠k:=fun z=>hn i hi (by rw[List.getElem?_eq_getElem hil,z])
   simpa using ne
  ·obtain⟨i,hi,e⟩:=List.mem_iff_getElem.mp (show y∈its by simpa using hy)
   obtain⟨t',e'⟩:=at_ i (by omega)
   rw[List.getElem?_eq_getElem hi,e]at e'
   cases e'
   exact SeqAt.EqAt.str_str _ _ _ _
  ·exact⟨.int j,H,I.tok _,⟨_,rfl⟩,q⟩
end
end L2
end
section
namespace L2
open PySem PySem.Spec PyProof.Rows
section
variable {X:Cx}
end
end L2
end
section
namespace L2
open PySem PySem.Spec PyProof.Rows
structure Src (J:It) (H:Hp) (n:Nat) (Y:Nat->V->Hp->Prop):Prop where
 go:∀ i H',i<n->aF H H'->J.go i H'
 yld:∀ i H' x H'',i<n->aF H H'->J.yld i H' x H''->aF H' H''/\Y i x H''
 stop:∀ H',aF H H'->J.stop n H'
section
variable {K:PySem.W.Frag} {H:Hp} {a:Addr} {xs:List V}
theorem cO (h:SqL K H a xs):Src (Itl K a) H xs.length (fun i x _=>xs[i]? = some x) where
 go:=fun i H' hi s=>⟨xs,xs[i],s.seq h,by simp [hi]⟩
 yld:=fun i H' x H'' hi s y=>⟨by rw[y.1]; exact aF.refl _,y.2 xs (s.seq h)⟩
 stop:=fun H' s=>⟨xs,s.seq h,Nat.le_refl _⟩
theorem BM (h:SqT K H a xs):Src (Itt K a) H xs.length (fun i x _=>xs[i]? = some x) where
 go:=fun i H' hi s=>⟨xs,xs[i],s.seqT h,by simp [hi]⟩
 yld:=fun i H' x H'' hi s y=>⟨by rw[y.1]; exact aF.refl _,y.2 xs (s.seqT h)⟩
 stop:=fun H' s=>⟨xs,s.seqT h,Nat.le_refl _⟩
theorem oJ (lo:Int) (n:Nat):Src (Itr lo n) H n (fun i x _=>x = .int (lo+i)) where
 go:=fun i H' hi s=>hi
 yld:=fun i H' x H'' hi s y=>⟨by rw[y.1]; exact aF.refl _,y.2⟩
 stop:=fun H' s=>Nat.le_refl _
theorem C7 (lo:Int) (h:SqT K H a xs):Src (Ite K lo a) H xs.length (fun i x H'=>∃ p v,x = .ref p/\H' p=some (.tup [.int (lo+i),v])/\xs[i]? = some v) where
 go:=fun i H' hi s=>⟨xs,xs[i],s.seqT h,by simp [hi]⟩
 yld:=fun i H' x H'' hi s ⟨p,v,e1,e2,e3,e4⟩=>⟨by rw[e3]; exact aJ e2,p,v,e1,by rw[e3]; exact aE,e4 xs (s.seqT h)⟩
 stop:=fun H' s=>⟨xs,s.seqT h,Nat.le_refl _⟩
end
noncomputable def AF (H H':Hp):Prop:=∀ b o,H b=some o->(∀ zs,o ≠ .lst zs)->H' b=some o
theorem aF.n {H H':Hp} (s:aF H H'):AF H H':=fun b o e _=>s b o e
theorem u7 {H:Hp} {D:Addr} {ys zs:List V} (h:H D=some (.lst ys)):AF H (upd H D (.lst zs)):=fun b o e n=>by
 rw[aG (fun z=>by rw[z,h]at e; exact n ys (Option.some.inj e).symm)]
 exact e
theorem fE {J:It} {H:Hp} {n:Nat} {Y:Nat->V->Hp->Prop} {T:List Str} {F:List (Str × Nat)} {σ : St} {g:TG} {te:TE} {Q:VK} (S:Src J H n Y) (hn:n<=sizeLine) (R:Nat->V->Hp->Prop) (stab:∀ i y H1 H2,AF H1 H2->R i y H1->R i y H2) (Z:St->Prop) (h0:Z (j8 T F σ))
  (step:∀ i x σc H3,i<n->Z σc->aF H H3->Y i x H3->∀ (Q':St->V->Hp->Prop),(∀ σ4 y H6,Z σ4->aF H3 H6->R i y H6->Q' σ4 y H6)->g x σc H3 fun σ4 H4=>te σ4 H4 fun y H6=>Q' σ4 y H6)
  (fin:∀ D ys H',H D=none->aF H H'->H' D=some (.lst ys)->ys.length=n->(∀ i y,ys[i]? = some y->R i y H')->Q (.ref D) H') :
  tT T F g C2 te σ Q J H:=by
 intro D hD
 refine⟨fun i m ys σc H2=>m=n - i/\i<=n/\Z σc/\aF H H2/\H2 D=some (.lst ys)/\ys.length=i/\∀ j y,ys[j]? = some y->R j y H2,⟨n,rfl,Nat.zero_le _,h0,aJ hD,aE,rfl,fun j y e=>by simp at e⟩,?_⟩
 rintro i m ys σc H2 ⟨rfl,hi,hz,hs,hd,hl,hr⟩
 refine⟨hd,?_⟩
 by_cases hlt:i<n
 ·refine .inr ⟨S.go i H2 hlt hs,by omega,fun x H3 y=>?_⟩
  obtain⟨s3,y3⟩:=S.yld i H2 x H3 hlt hs y
  simp only[C2,if_true]
  refine step i x σc H3 hlt hz (hs.trans s3) y3 (fun σ4 y H6=>H6 D=some (.lst ys)/\∃ m',m'<n - i/\m'=n - (i+1)/\i+1<=n/\Z σ4/\aF H (upd H6 D (.lst (ys++[y])))/\(upd H6 D (.lst (ys++[y]))) D=some (.lst (ys++[y]))/\(ys++[y]).length=i+1/\∀ j z,(ys++[y])[j]? = some z->R j z (upd H6 D (.lst (ys++[y])))) fun σ4 y H6 z4 s6 r6=>?_
  have d6:H6 D=some (.lst ys):=s6 _ _ (s3 _ _ hd)
  have sU:∀ {H1:Hp},aF H1 H6->H1 D=none->aF H1 (upd H6 D (.lst (ys++[y]))):=fun {H1} s b=>fun c u e=>by
   rw[aG (aY e b)]
   exact s c u e
  refine⟨d6,n - (i+1),by omega,rfl,hlt,z4,sU ((hs.trans s3).trans s6) hD,aE,by rw[List.length_append,hl]; rfl,fun j z e=>?_⟩
  have up:=u7 (zs:=ys++[y]) d6
  by_cases hj:j<ys.length
  ·rw[List.getElem?_append_left hj]at e
   exact stab _ _ _ _ up (stab _ _ _ _ (s3.trans s6).n (hr j z e))
  ·have hj2:j=ys.length:=by
    have:=(List.getElem?_eq_some_iff.mp e).1
    rw[List.length_append]at this
    simp at this
    omega
   subst hj2
   rw[List.getElem?_append_right (Nat.le_refl _)]at e
   simp at e
   subst e
   rw[hl]
   exact stab _ _ _ _ up r6
 ·have hin:i=n:=by omega
  subst hin
  exact .inl ⟨S.stop H2 hs,fin D ys H2 hD hs hd hl hr⟩
mutual
noncomputable def l5:PyData->Bool
 | .none | .bool _ | .int _ | .str _=>true
 | .tuple ds=>eK ds
 | _=>false
noncomputable def eK:List PyData->Bool
 | []=>true
 | d::ds=>l5 d && eK ds
end
mutual
theorem Den.n {H H':Hp} (e:AF H H'):∀ {d:PyData} {v:V},l5 d=true->Den H d v->Den H' d v
 | .none,v,t,h=>by simp only[Den]at h ⊢; exact h
 | .bool b,v,t,h=>by simp only[Den]at h ⊢; exact h
 | .int i,v,t,h=>by simp only[Den]at h ⊢; exact h
 | .str x,v,t,h=>by simp only[Den]at h ⊢; exact h
 | .tuple ds,v,t,h=>by
  simp only[Den]at h ⊢
  simp only[l5]at t
  obtain⟨a,xs,e1,h1,h2⟩:=h
  exact⟨a,xs,e1,e _ _ h1 (fun zs z=>by cases z),aU.n e t h2⟩
 | .list ds,v,t,h=>by simp [l5]at t
 | .dict _,v,t,h=>by simp only[Den]at h
theorem aU.n {H H':Hp} (e:AF H H'):∀ {ds:List PyData} {xs:List V},eK ds=true->aU H ds xs->aU H' ds xs
 | [],xs,t,h=>by simp only[aU]at h ⊢; exact h
 | d::ds,xs,t,h=>by
  simp only[aU]at h ⊢
  simp only[eK,Bool.and_eq_true]at t
  obtain⟨x,r,e1,h1,h2⟩:=h
  exact⟨x,r,e1,Den.n e t.1 h1,aU.n e t.2 h2⟩
end
noncomputable def tyD:PyData->Value
 | .none=>.type "NoneType"
 | .bool _=>.type "bool"
 | .int _=>.type "int"
 | .str _=>.type "str"
 | .tuple _=>.type "tuple"
 | .list _=>.type "list"
 | .dict _=>.type "dict"
theorem Den.ty {K:PySem.W.Frag} {H:Hp}:∀ {d:PyData} {v:V},Den H d v->TyOf K H v (tyD d)
 | .none,v,h=>by simp only[Den]at h; subst h; exact .non
 | .bool b,v,h=>by simp only[Den]at h; subst h; exact .bl b
 | .int i,v,h=>by simp only[Den]at h; subst h; exact .int i
 | .str x,v,h=>by simp only[Den]at h; subst h; exact .str x
 | .tuple ds,v,h=>by
  simp only[Den]at h
  obtain⟨a,xs,e1,h1,h2⟩:=h
  subst e1
  exact .tup h1
 | .list ds,v,h=>by
  simp only[Den]at h
  obtain⟨a,xs,e1,h1,h2⟩:=h
  subst e1
  exact .lst h1
 | .dict _,v,h=>by simp only[Den]at h
theorem bR {H:Hp}:∀ {ns:List Int} {xs:List V},aU H (ns.map PyData.int) xs ↔ xs=ns.map V.int
 | [],xs=>by simp [aU]
 | n::ns,xs=>by
  simp only[List.map_cons,aU,Den]
  constructor
  ·rintro ⟨x,r,e1,e2,h⟩
   subst e2
   rw[e1,bR.mp h]
  ·intro h
   exact⟨_,_,h,rfl,bR.mpr rfl⟩
theorem aU.length {H:Hp}:∀ {ds:List PyData} {xs:List V},aU H ds xs->xs.length=ds.length
 | [],xs,h=>by simp only[aU]at h; subst h; rfl
 | d::ds,xs,h=>by
  simp only[aU]at h
  obtain⟨x,r,e1,_,h2⟩:=h
  rw[e1,List.length_cons,List.length_cons,aU.length h2]
theorem aU.get {H:Hp}:∀ {ds:List PyData} {xs:List V} {i:Nat} {x:V},aU H ds xs->xs[i]? = some x->∃ d,ds[i]? = some d/\Den H d x
 | [],xs,i,x,h,e=>by simp only[aU]at h; subst h; simp at e
 | d::ds,xs,0,x,h,e=>by
  simp only[aU]at h
  obtain⟨y,r,e1,h1,_⟩:=h
  subst e1
  simp at e
  subst e
  exact⟨d,rfl,h1⟩
 | d::ds,xs,i+1,x,h,e=>by
  simp only[aU]at h
  obtain⟨y,r,e1,_,h2⟩:=h
  subst e1
  simp at e
  obtain⟨d',e',h'⟩:=aU.get h2 e
  exact⟨d',by simpa using e',h'⟩
theorem Dt {K:PySem.W.Frag} (d:PyData):PySem.W.kitOne K (tyD d) (.type "bool")=some (match d with | .bool _=>true | _=>false):=by
 cases d <;> rfl
theorem lV {K:PySem.W.Frag} (d:PyData):PySem.W.kitOne K (tyD d) (.type "int")=some (match d with | .bool _=>true | .int _=>true | _=>false):=by
 cases d <;> rfl
theorem BY {K:PySem.W.Frag} (d:PyData):PySem.W.kitOne K (tyD d) (.type "str")=some (match d with | .str _=>true | _=>false):=by
 cases d <;> rfl
theorem vG {K:PySem.W.Frag} (d:PyData):PySem.W.kitOne K (tyD d) (.type "tuple")=some (match d with | .tuple _=>true | _=>false):=by
 cases d <;> rfl
end L2
end
section
namespace L2
open PySem PySem.Spec PyProof.Rows
section
variable {X:Cx}
theorem eM (K:PySem.W.Frag) (hK:X.K=K:=by rfl):IxR X (DN K):=by
 subst hK
 exact FV
theorem cQ (K:PySem.W.Frag) (hK:X.K=K:=by rfl):IxR X (GE K):=by
 subst hK
 exact Ga
theorem vD (K:PySem.W.Frag) (hK:X.K=K:=by rfl):OpR X (compareOp .NotIn) (rIn K true):=by
 subst hK
 exact xF
noncomputable def B9 (K:PySem.W.Frag):List V->Hp->VK->Prop:=fun xs H Q=>∃ p ys,xs=[.ref p]/\(SqL K H p ys\/SqT K H p ys)/\Q (.int ys.length) H
theorem dR (K:PySem.W.Frag) (hK:X.K=K:=by rfl):eX X (.builtin "len") (B9 K):=by
 subst hK
 exact yF
theorem gT (K:PySem.W.Frag) (hK:X.K=K:=by rfl):eX X (.builtin "isinstance") (rIsi K):=by
 subst hK
 exact ET
theorem lZ (K:PySem.W.Frag) (hc:X.calm=true:=by rfl) (hK:X.K=K:=by rfl):eX X (.builtin "sum") (GB K):=by
 subst hK
 exact Cq hc
theorem vZ (K:PySem.W.Frag) (hc:X.calm=true:=by rfl) (hK:X.K=K:=by rfl):eX X (.builtin "all") (rAll K):=by
 subst hK
 exact Cr hc
noncomputable def DG (K:PySem.W.Frag):List V->Hp->VK->Prop:=fun xs H Q=>∃ p ys,xs=[.ref p]/\((SqL K H p ys/\∀ l,H l=none->Q (.ref l) (upd H l (.tup ys)))\/(SqT K H p ys/\Q (.ref p) H))
theorem AD (K:PySem.W.Frag) (hK:X.K=K:=by rfl):eX X (.type "tuple") (DG K):=by
 subst hK
 exact uR
theorem CO (K:PySem.W.Frag) (hK:X.K=K:=by rfl):MtR X "tuple.index" (DO K):=by
 subst hK
 exact Dq
theorem rM (K:PySem.W.Frag) (hK:X.K=K:=by rfl):SlR X (GC K):=by
 subst hK
 exact Et
theorem E9 (K:PySem.W.Frag) {es:List Expr} {k:Nat} {t:TGs} {n:Nat} {pos:Pos} (h:PGs X es t) (hc:X.calm=true:=by rfl) (hK:X.K=K:=by rfl) (hn:(assignEach es X.env).length=n:=by rfl) (hst:(assignEach es X.env).findIdx? (·.1)=none:=by rfl):PG X (.Tuple es k pos) (gTup K n t):=by
 subst hK
 exact GI hc h hn hst
theorem cP (K:PySem.W.Frag) {tg l:Expr} {tl:TE} (hl:PE X l tl) (hK:X.K=K:=by rfl):PI X tg l (Fs K tl):=by
 subst hK
 exact E7 hl
theorem BT (K:PySem.W.Frag) {tg l:Expr} {tl:TE} (hl:PE X l tl) (hK:X.K=K:=by rfl):PI X tg l (iTup K tl):=by
 subst hK
 exact GG hl
theorem CB (K:PySem.W.Frag) {ex:Expr} {elts:List Expr} {x1 k:Nat} {tp p pos cp kp:Pos} {ta:TE} (hm:X.mg "enumerate" = none) (ha:PE X ex ta) (hg:Gl X "enumerate":=by rfl) (hs:starEach [ex] X.env=[(false,eval ex X.env)]:=by rfl) (hK:X.K=K:=by rfl) :
  PI X (.Tuple elts x1 tp) (.Call (.Name "enumerate" p) [ex] [⟨some "start",.Constant (.int 1) k cp,kp⟩] pos) (Ft K 1 ta):=by
 subst hK
 exact DW hm ha hg hs
end
end L2
end
section
namespace L2
open PySem PySem.Spec PyProof.Rows
noncomputable def TupM (K:PySem.W.Frag) (H:Hp) (x:V):Prop:=∃ p,x = .ref p/\((∃ o u,H p=some (.frz o u)/\o.cls = .type "tuple"/\o.dict=none)\/∃ o,K.lookup p=some o/\o.cls = .type "tuple"/\o.dict=none)
noncomputable def tBMT (K:PySem.W.Frag) (r:V->List V->Hp->VK->Prop) (to:TE) (t:TA):TE:=fun σ H Q=>to σ H fun x H1=>TupM K H1 x/\t σ H1 fun xs H2=>r x xs H2 Q
section
variable {X:Cx} {o e:Expr} {es:List Expr} {t:TA} {to:TE} {pos apos cpos:Pos} {name:Str} {id:String} {r:V->List V->Hp->VK->Prop}
theorem GL (K:PySem.W.Frag) (slot:Slot "tuple" name id) (hty:typeOf (.builtin id)=pure (.type "method_descriptor")) (hm:MtR X id r) (ho:PE X o to) (ha:PA X (e::es) t) (hK:X.K=K:=by rfl)
  (hbase:attributeBase o name X.env (eval o X.env)=eval o X.env:=by rfl)
  (hfew:((backTo cpos (starEach (e::es) X.env)).all (fun x=>!x.1) && (backToKw cpos (keywordEach [] X.env)).all (fun x=>x.1.isSome)
   && decide ((e::es).length+([]:List Keyword).length+(if ([]:List Keyword).isEmpty then 0 else 1)<30))=true:=by rfl)
  (hline:(apos.endLine == cpos.line)=true:=by rfl) (hs:starEach (e::es) X.env=(false,eval e X.env)::starEach es X.env:=by rfl) (hplain:(backTo cpos (starEach es X.env)).any (·.1)=false:=by rfl) :
  PE X (.Call (.Attribute o name apos) (e::es) [] cpos) (tBMT K r to t):=by
 subst hK
 intro pins s σ H Q I h
 refine wpAny_Call_method_late hbase hfew hline rfl (thn (ho pins s σ H _ I h) fun v s1 zQq=>?_)
 obtain⟨x,H1,I1,r1,ty,q1⟩:=zQq
 obtain⟨p,ex,ty⟩:=ty
 subst ex
 cases (show v=Value.ref p from r1)
 have hob:∃ ob,s1.heap.get? p=some ob/\ob.cls = .type "tuple"/\ob.dict=none:=by
  rcases ty with ⟨ob,u,z1,z2,z3⟩ | ⟨ob,z1,z2,z3⟩
  ·obtain⟨g,_⟩:=I1.hok p _ z1
   exact⟨ob,g,z2,z3⟩
  ·exact⟨ob,I1.kIn _ _ z1,z2,z3⟩
 obtain⟨ob,g1,g2,g3⟩:=hob
 refine⟨"tuple",id,PySem.F.plainAttrs_tuple,slot,hty,⟨ob,g1,g2⟩,(fun b eb=>by cases eb; exact⟨ob,g1,g3⟩),?_⟩
 have hA:=ha cpos pins s1 σ H1 _ I1 q1
 rw[hs]at hA ⊢
 refine Calls.callWith_builtin (by show (false || (backTo cpos (starEach es X.env)).any (·.1))=false; rw[hplain] <;> rfl) (Calls.evalArgs_plain ?_)
 exact thn hA fun us s2 ⟨vs,H2,I2,r2,q2⟩=>hm pins s2 σ H2 (.ref p) vs (.ref p) us Q I2 rfl r2 q2
end
end L2
end
section
namespace L2
open PySem PySem.Spec PyProof.Rows
noncomputable def PEd (te:TE) (d:PyData):Prop:=∀ (σ : St) (H:Hp) (Q:VK),(∀ v H',aF H H'->Den H' d v->Q v H')->te σ H Q
theorem BA {i:Int}:PEd (tC (.int i)) (.int i):=fun _ H _ q=>q _ H (aF.refl H) (by simp only[Den])
theorem aU.app {H:Hp}:∀ {d1 d2:List PyData} {x1 x2:List V},aU H d1 x1->aU H d2 x2->aU H (d1++d2) (x1++x2)
 | [],d2,x1,x2,h1,h2=>by
  simp only[aU]at h1
  subst h1
  exact h2
 | d::d1,d2,x1,x2,h1,h2=>by
  simp only[aU]at h1
  obtain⟨x,r,e,k1,k2⟩:=h1
  subst e
  show aU H (d::(d1++d2)) (x::(r++x2))
  simp only[aU]
  exact⟨x,_,rfl,k1,k2.app h2⟩
theorem bY {α : Type} {xs:List α} {i:Int} {v:α} (h:0<=i) (e:xs[i.toNat]? = some v):atI xs i=some v:=by
 obtain⟨j,rfl⟩:=Int.eq_ofNat_of_zero_le h
 exact bP (by simpa using e)
theorem EH (ns ms:List Int):PyData.eqv (.tuple (ns.map .int)) (.tuple (ms.map .int))=decide (ns=ms):=by
 show PyData.eqvAll _ _=_
 exact PySem.W.ked_eqvAll ns ms
theorem tD:∀ ns:List Int,PyData.canLayAll0 (ns.map .int)=true
 | []=>rfl
 | n::ns=>by
  show (true && _)=true
  rw[Bool.true_and]
  exact tD ns
theorem m5:∀ ns:List Int,PyData.depthAll (ns.map .int)=0
 | []=>rfl
 | n::ns=>by
  show max 0 (PyData.depthAll (ns.map .int))=0
  rw[m5 ns]
  rfl
theorem pV (ns:List Int):SeqAt.shaped (.tuple (ns.map .int))=true:=by
 unfold SeqAt.shaped
 have h1:PyData.canLay0 (.tuple (ns.map .int))=true:=tD ns
 have h2:PyData.depth (.tuple (ns.map .int))=1:=by
  show PyData.depthAll (ns.map .int)+1=1
  rw[m5]
 rw[h1,h2]
 rfl
end L2
end
section
namespace L2
open PySem PySem.Spec PyProof.Rows
section
variable {X:Cx} {es:List Expr} {te:TE} {t:TA}
theorem aO {v:Const} {k:Nat} {p:Pos} (ha:PE X (.Constant v k p) te) (hr:PA X es t):PA X (.Constant v k p::es) (dX te t):=fS ha hr rfl
theorem aD {x:Str} {p:Pos} (ha:PE X (.Name x p) te) (hr:PA X es t):PA X (.Name x p::es) (dX te t):=fS ha hr rfl
theorem dE {l:List Expr} {k:Nat} {p:Pos} (ha:PE X (.Tuple l k p) te) (hr:PA X es t):PA X (.Tuple l k p::es) (dX te t):=fS ha hr rfl
theorem xD {l:List Expr} {p:Pos} (ha:PE X (.List l p) te) (hr:PA X es t):PA X (.List l p::es) (dX te t):=fS ha hr rfl
theorem dO {a:Expr} {o:Operator} {b:Expr} {p:Pos} (ha:PE X (.BinOp a o b p) te) (hr:PA X es t):PA X (.BinOp a o b p::es) (dX te t):=fS ha hr rfl
theorem cJ {f:Expr} {as:List Expr} {kw:List Keyword} {p:Pos} (ha:PE X (.Call f as kw p) te) (hr:PA X es t):PA X (.Call f as kw p::es) (dX te t):=fS ha hr rfl
theorem aM {a b:Expr} {p:Pos} (ha:PE X (.Subscript a b p) te) (hr:PA X es t):PA X (.Subscript a b p::es) (dX te t):=fS ha hr rfl
theorem cV {a:Expr} {x:Str} {p:Pos} (ha:PE X (.Attribute a x p) te) (hr:PA X es t):PA X (.Attribute a x p::es) (dX te t):=fS ha hr rfl
theorem f9 {a:Expr} {gs:List Comprehension} {sc:Scope} {p:Pos} (ha:PE X (.ListComp a gs sc p) te) (hr:PA X es t):PA X (.ListComp a gs sc p::es) (dX te t):=fS ha hr rfl
end
end L2
end
section
namespace HT
open PySem PySem.Spec PyProof.Rows
section
variable {prog:Program} {w:World} {A:Around} {E:Value->Shared->Prop} {s:Shared}
theorem l8 {t sl:Addr} {items:Array Value} {vl vu:Value} {lo hi:Option Int} {Q:Value->Shared->Prop} (ht:IsTup s.heap t items) (hs:s.heap.IsSliceOf sl vl vu .none) (pl:IsPart vl lo) (pu:IsPart vu hi)
  (hw:sIx items.size 0 lo=0/\sIx items.size items.size hi=items.size) (h:Q (.ref t) s):wpAny (model prog w) A (getItem (.ref t) (.ref sl)) Q E s:=by
 obtain⟨os,hos,hcs,hds⟩:=id hs
 have hTs:s.TypeIs (.ref sl) "slice":=⟨os,hos,hcs⟩
 unfold getItem
 try with_reducible refine wpAny_holding ?_
 first | refine wpAny_bind (wpAny_pure ?_) | skip
 refine wpAny_bind (wpAny_sequenceKey ht.typeIs (by decide) ?_)
 refine wpAny_bind (wpAny_callSpecial?_slot (name:=Str.ofString "__getitem__") ht.typeIs PyProof.Rows.slot_tuple_getitem
  (wpAny_call_entry PyProof.Rows.slot_tuple_getitem ht.typeIs entry_tuple_getitem ?_ (args_tuple_getitem _ _)))
 show wpAny _ _ (Builtin.Tuple.tupleItemsOf (.ref t) >>= _) _ _ s
 refine wpAny_bind (tupleItemsOf_ ht ?_)
 refine wpAny_bind (wpAny_typeOf hTs ?_)
 rw[if_pos (by decide)]
 refine wpAny_bind (iW hs pl pu ?_)
 have hyes:(((sIx items.size 0 lo:Nat):Int) == 0 && (1:Int) == 1 && (sIx items.size items.size hi - sIx items.size 0 lo) == items.size)=true:=by
  rw[hw.1,hw.2]
  simp
 show wpAny _ _ (if (((sIx items.size 0 lo:Nat):Int) == 0 && (1:Int) == 1 && (sIx items.size items.size hi - sIx items.size 0 lo) == items.size)=true then _ else _) _ _ s
 rw[if_pos hyes]
 refine wpAny_bind ?_
 unfold Builtin.Tuple.tupleIsExact
 refine wpAny_bind (wpAny_typeOf ht.typeIs (wpAny_pure ?_))
 rw[if_pos (by decide)]
 refine wpAny_bind (wpAny_rule ?_)
 exact wpAny_pure ⟨_,rfl,wpAny_pure h⟩
end
end HT
namespace L2
open PySem PySem.Spec PyProof.Rows
section
variable {X:Cx}
noncomputable def DM (K:PySem.W.Frag):V->Option Int->Option Int->Hp->VK->Prop:=fun x lo hi H Q=>∃ a xs,x = .ref a/\SqT K H a xs/\
 ((HT.sIx xs.length 0 lo=0/\HT.sIx xs.length xs.length hi=xs.length)->Q (.ref a) H)/\(¬ (HT.sIx xs.length 0 lo=0/\HT.sIx xs.length xs.length hi=xs.length)->∀ p,H p=none->Q (.ref p) (upd H p (.tup (fN xs lo hi))))
theorem B3:SlR X (DM X.K):=by
 intro pins s σ H x v vl vu lo hi sl Q I rx hs pl pu h
 obtain⟨a,xs,rfl,hx,q1,q2⟩:=h
 by_cases hw:HT.sIx xs.length 0 lo=0/\HT.sIx xs.length xs.length hi=xs.length
 ·cases rx
  obtain⟨its,r,ht,hz⟩:=I.tuple hx
  have hlen:its.toArray.size=xs.length:=by rw[List.size_toArray]; exact r.length.symm
  refine⟨"tuple",_,PyProof.Rows.slot_tuple_getitem.lookup,ht.typeIs,?_⟩
  exact HT.l8 ht hs pl pu (by rw[hlen]; exact hw) ⟨.ref a,H,I,rfl,q1 hw⟩
 ·exact F6 pins s σ H (.ref a) v vl vu lo hi sl Q I rx hs pl pu ⟨a,xs,rfl,hx,hw,q2 hw⟩
theorem nK (K:PySem.W.Frag) (hK:X.K=K:=by rfl):SlR X (DM K):=by
 subst hK
 exact B3
end
end L2
end
section
namespace L2
open PySem PySem.Spec PyProof.Rows
theorem fB {J:It} {H0 H:Hp} {n:Nat} {Y:Nat->V->Hp->Prop} {g:TG} {tb:TS} {D:Ends} {σ : St} (S:Src J H0 n Y) (Pv:Nat->St->Hp->Prop) (h0:Pv 0 σ H) (keep:∀ i σ H',Pv i σ H'->aF H0 H')
  (step:∀ i x σ H1 H2,i<n->Pv i σ H1->aF H1 H2->Y i x H2->g x σ H2 fun σ2 H3=>tb { D with nx:=Pv (i+1),ct:=Pv (i+1),bk:=D.nx } σ2 H3) (fin:∀ σ H',Pv n σ H'->D.nx σ H') :
  ∃ W:Nat->Nat->St->Hp->Prop,(∃ m,W 0 m σ H)/\∀ i m σ H,W i m σ H->
   (J.stop i H/\D.nx σ H)\/(J.go i H/\∃ N:St->Hp->Prop,(∀ σ' H',N σ' H'->∃ m',m'<m/\W (i+1) m' σ' H')/\∀ x H',J.yld i H x H'->g x σ H' fun σ2 H2=>tb { D with nx:=N,ct:=N,bk:=D.nx } σ2 H2):=by
 refine⟨fun i m σ H'=>m=n - i/\i<=n/\Pv i σ H',⟨n,rfl,Nat.zero_le _,h0⟩,?_⟩
 rintro i m σ H1 ⟨rfl,hi,p⟩
 have s1:=keep i σ H1 p
 by_cases hlt:i<n
 ·refine .inr ⟨S.go i H1 hlt s1,Pv (i+1),fun σ' H' p'=>⟨n - (i+1),by omega,rfl,hlt,p'⟩,fun x H' y=>?_⟩
  obtain⟨s2,y2⟩:=S.yld i H1 x H' hlt s1 y
  exact step i x σ H1 H' hlt p s2 y2
 ·have hin:i=n:=by omega
  subst hin
  exact .inl ⟨S.stop H1 s1,fin σ H1 p⟩
theorem oB {J:It} {H:Hp} {n:Nat} {Y:Nat->V->Hp->Prop} {T:List Str} {F:List (Str × Nat)} {σ : St} {g:TG} {tc:TT} {te:TE} {Q:VK} (S:Src J H n Y) (hn:n<=sizeLine) (t:Nat->Bool) (f:Nat->V) (Z:St->Prop) (h0:Z (j8 T F σ))
  (step:∀ i x σc H3,i<n->Z σc->aF H H3->Y i x H3->∀ (Q1:Hp->Prop) (Q2:St->V->Hp->Prop) (Q3:St->Hp->Prop),(∀ σ4,Z σ4->t i=true->Q2 σ4 (f i) H3)->(∀ σ4,Z σ4->t i=false->Q3 σ4 H3)->
   g x σc H3 fun σ4 H4=>tc σ4 H4 fun b H5=>if b=true then te σ4 H5 fun y H6=>Q2 σ4 y H6 else Q3 σ4 H5)
  (fin:∀ D H',H D=none->aF H H'->H' D=some (.lst (((List.range n).filter t).map f))->Q (.ref D) H') :
  tT T F g tc te σ Q J H:=by
 intro D hD
 refine⟨fun i m ys σc H2=>m=n - i/\i<=n/\Z σc/\aF H H2/\H2 D=some (.lst ys)/\ys=((List.range i).filter t).map f,⟨n,rfl,Nat.zero_le _,h0,aJ hD,aE,rfl⟩,?_⟩
 rintro i m ys σc H2 ⟨rfl,hi,hz,hs,hd,hy⟩
 refine⟨hd,?_⟩
 by_cases hlt:i<n
 ·refine .inr ⟨S.go i H2 hlt hs,?_,fun x H3 y=>?_⟩
  ·rw[hy,List.length_map]
   have:=List.length_filter_le t (List.range i)
   rw[List.length_range]at this
   omega
  obtain⟨s3,y3⟩:=S.yld i H2 x H3 hlt hs y
  have d3:H3 D=some (.lst ys):=s3 _ _ hd
  refine step i x σc H3 hlt hz (hs.trans s3) y3 (fun _=>True) (fun σ4 y H6=>H6 D=some (.lst ys)/\∃ m',m'<n - i/\m'=n - (i+1)/\i+1<=n/\Z σ4/\aF H (upd H6 D (.lst (ys++[y])))/\(upd H6 D (.lst (ys++[y]))) D=some (.lst (ys++[y]))/\(ys++[y])=((List.range (i+1)).filter t).map f)
   (fun σ4 H5=>∃ m',m'<n - i/\m'=n - (i+1)/\i+1<=n/\Z σ4/\aF H H5/\H5 D=some (.lst ys)/\ys=((List.range (i+1)).filter t).map f) (fun σ4 z4 ht=>?_) fun σ4 z4 ht=>?_
  ·refine⟨d3,n - (i+1),by omega,rfl,hlt,z4,fun c u e=>?_,aE,?_⟩
   ·rw[aG (aY e hD)]
    exact(hs.trans s3) c u e
   ·rw[List.range_succ,List.filter_append,List.map_append,<- hy]
    simp [ht]
  ·refine⟨n - (i+1),by omega,rfl,hlt,z4,hs.trans s3,d3,?_⟩
   rw[List.range_succ,List.filter_append,List.map_append,<- hy]
   simp [ht]
 ·have hin:i=n:=by omega
  subst hin
  exact .inl ⟨S.stop H2 hs,fin D H2 hD hs (by rw[hd,hy])⟩
end L2
end
section
namespace L2
open PySem PySem.Spec PyProof.Rows
section
variable {X:Cx} {pins:List (Addr × Obj)} {σ : St} {H:Hp} {s:Shared}
end
section
variable {K:PySem.W.Frag} {H:Hp} {a:Addr} {xs:List V}
end
end L2
end
section
namespace L2
open PySem PySem.Spec PyProof.Rows
theorem gM (a:Value):checkBuiltinCall "sorted" ⟨[a],[]⟩=pure ():=by kernel_rfl
section
variable {X:Cx}
theorem vJ {prog:Program} {w:World} {kvs:List (Key × Value)} {ns:List Int} (hk:kvs.map (·.1)=ns.map Sum.inl):∀ {acc:List Value},acc.length=kvs.length->(∀ (j:Nat) (v:Value),acc[j]? = some v->∃ k x,kvs[j]? = some (k,x)/\(cE prog w).is k v=true)->IntsAre acc ns:=by
 induction kvs generalizing ns with
 | nil=>
  intro acc hl _
  cases ns with
  | nil=>
   cases acc with
   | nil=>exact .nil
   | cons _ _=>simp at hl
  | cons _ _=>simp at hk
 | cons kv kvs ih=>
  intro acc hl h
  cases ns with
  | nil=>simp at hk
  | cons n ns=>
   cases acc with
   | nil=>simp at hl
   | cons v acc=>
    simp only[List.map_cons,List.cons.injEq]at hk
    obtain⟨k,x,h1,h2⟩:=h 0 v rfl
    have h1:kv=(k,x):=by simpa using h1
    subst h1
    have hk1:k=Sum.inl n:=hk.1
    subst hk1
    have hv:∃ t,v = .int n t:=by
     have h2:Value.isInt n v=true:=h2
     cases v <;> simp_all [Value.isInt]
    obtain⟨t,rfl⟩:=hv
    exact .cons n t (ih hk.2 (by simpa using hl) fun j v hv=>by
     obtain⟨k,x,h1,h2⟩:=h (j+1) v (by simpa using hv)
     exact⟨k,x,by simpa using h1,h2⟩)
noncomputable def DL:List V->Hp->VK->Prop:=fun xs H Q=>∃ d kvs ns,xs=[.ref d]/\H d=some (.dK kvs)/\kvs.map (·.1)=ns.map Sum.inl/\ns.length<64/\
 ∀ p ms,List.Perm ms ns->ms.Pairwise (· <= ·)->H p=none->Q (.ref p) (upd H p (.lst (ms.map .int)))
theorem qV {κ : Type} {kvs:List (κ × V)} {vs:List (κ × Value)} (r:KV kvs vs):kvs.map (·.1)=vs.map (·.1):=by
 induction r with
 | nil=>rfl
 | cons h _ ih=>
  rw[List.map_cons,List.map_cons,ih]
  congr 1
  exact h.1
theorem yD (hc:X.calm=true):eX X (.builtin "sorted") DL:=by
 intro pins s σ H xs us Q I r h
 obtain⟨d,kvs,ns,rfl,hd,hk,hl,q⟩:=h
 cases r with
 | cons r1 r2=>
  cases r2
  cases (show _=Value.ref d from r1)
  obtain⟨hz,hsm,vs,rel,o,es,ep,dd⟩:=vU I.hok hd
  have hh:X.A.in1.handled=none:=I.ok.hd hc
  have hlen:vs.length=ns.length:=by
   have h1:=rel.length
   have h2:=congrArg List.length hk
   rw[List.length_map,List.length_map]at h2
   omega
  have hkv:vs.map (·.1)=ns.map Sum.inl:=by rw[<- qV rel]; exact hk
  refine wpAny_call (codeAny_call_builtin plain_sorted entry_sorted (wpAny_of_eq (gM _) ?_))
  show wpAny _ _ (checkCount "sorted" 1 1 1 >>= _) _ _ s
  refine wpAny_bind (wpAny_of_eq (a:=()) (by rfl) ?_)
  refine wpAny_bind (PySem.W.kdu_collect (PySem.W.kdl_dict (knd:=cE X.prog X.w) (kvs:=vs) (ep:=ep) hsm) hh ⟨o,es,dd⟩ (by rw[hlen]; exact Nat.le_of_lt (Nat.lt_trans hl (by decide))) fun h' tk acc keep hit=>?_)
  have hacc:acc.toList.length=vs.length:=by
   have:=hit.1
   simpa using this
  have hints:IntsAre acc.toList ns:=vJ (prog:=X.prog) (w:=X.w) hkv hacc fun j v hv=>hit.2 j v (by simpa using hv)
  refine wpAny_bind (wpAny_newList ?_ (by rw[hacc,hlen]; exact Nat.le_of_lt (Nat.lt_trans hl (by decide))))
  generalize eh2:h'.push { cls:=.type "list",data:=.seq acc.toList.toArray }=h2
  have g2:h2.get? h'.objs.size=some (seqObj "list" acc.toList.toArray 0):=by
   rw[<- eh2]
   exact Heap.get?_push_size _ rfl
  refine wpAny_bind (wpAny_holding ?_)
  refine wpAny_call_entry (T:="list") PyProof.Rows.slot_list_sort ⟨_,g2,rfl⟩ PyProof.Rows.entry_list_sort ?_ (PyProof.Rows.args_list_sort _)
  refine list_sort_tree g2 hints (by rw[hacc,hlen]; exact hl) fun out ms hout perm pw=>?_
  refine⟨_,rfl,wpAny_pure ?_⟩
  obtain⟨ep2,gat⟩:=sortedHeap_at (h:=h2) (a:=h'.objs.size) (vs:=acc.toList) (out:=out) g2
  have hf:H h'.objs.size=none:=(I.kept (t':=tk) keep).hok.fresh (Nat.le_refl _)
  refine⟨.ref h'.objs.size,upd H h'.objs.size (.lst (ms.map .int)),(I.kept (t':=tk) keep).laid (t':=tk) (fun b u e=>?_) (Nat.le_refl _) ?_,rfl,q _ ms perm pw hf⟩
  ·have hb:b<h'.objs.size:=Heap.lt_size e
   have h2s:h2.objs.size=h'.objs.size+1:=by rw[<- eh2]; exact Heap.size_push _ _
   rw[sortedHeap_old (Nat.ne_of_lt hb) (by rw[h2s]; exact Nat.lt_succ_of_lt hb),<- eh2]
   exact Heap.get?_push_of_some _ e
  ·refine⟨?_,out.toList,ep2,iT hout,?_⟩
   ·rw[List.length_map,perm.length_eq]
    exact Nat.le_of_lt (Nat.lt_trans hl (by decide))
   ·simpa [seqObj] using gat
end
end L2
end
section
namespace L2
open PySem PySem.Spec PyProof.Rows
section
variable {X:Cx}
noncomputable def tLR (ta:TA):TE:=fun σ H Q=>ta σ H fun vs H1=>∃ i j:Int,vs=[.int i,.int j]/\(-(2 ^ 62)<=i/\i<2 ^ 62/\-(2 ^ 62)<=j/\j<2 ^ 62)/\(j - i).toNat<=sizeLine/\∀ p,H1 p=none->Q (.ref p) (upd H1 p (.lst ((List.range (j - i).toNat).map fun k=>.int (i+(k:Nat)))))
theorem AG {i:Int}:∀ {n:Nat} {us:List Value},us.length=n->(∀ (j:Nat) v,us[j]? = some v->∃ t,v=Value.int (i+(j:Int) * 1) t)->bQ ((List.range n).map fun k=>V.int (i+(k:Nat))) us:=by
 intro n us hl h
 have key:∀ {n:Nat} {us:List Value} {f:Nat->Int},us.length=n->(∀ (j:Nat) v,us[j]? = some v->∃ t,v=Value.int (f j) t)->bQ ((List.range n).map fun k=>V.int (f k)) us:=by
  intro n
  induction n with
  | zero=>
   intro us f hl _
   cases us with
   | nil=>exact .nil
   | cons _ _=>simp at hl
  | succ n ih=>
   intro us f hl h
   cases us with
   | nil=>simp at hl
   | cons u us=>
    rw[List.range_succ_eq_map,List.map_cons,List.map_map]
    obtain⟨t,e⟩:=h 0 u rfl
    exact .cons ⟨t,e⟩ (ih (f:=fun k=>f (k+1)) (by simpa using hl) fun j v hv=>h (j+1) v (by simpa using hv))
 exact key hl fun j v hv=>by
  obtain⟨t,e⟩:=h j v hv
  exact⟨t,by rw[e,Int.mul_one]⟩
theorem Ae {a b:Expr} {ta:TA} {p p2 pos pos2:Pos} (hc:X.calm=true) (hgL:Gl X "list") (hmL:X.mg "list" = none) (hg:Gl X "range") (hm:X.mg "range" = none) (ha:PA X [a,b] ta)
  (hs:starEach [a,b] X.env=[(false,eval a X.env),(false,eval b X.env)]:=by rfl) (hs2:starEach [b] X.env=[(false,eval b X.env)]:=by rfl)
  (hs3:starEach [.Call (.Name "range" p2) [a,b] [] pos2] X.env=[(false,eval (.Call (.Name "range" p2) [a,b] [] pos2) X.env)]:=by rfl) :
  PE X (.Call (.Name "list" p) [.Call (.Name "range" p2) [a,b] [] pos2] [] pos) (tLR ta):=by
 intro pins s σ H Q I h
 refine wpAny_Call_Name_kw (mX I hgL hmL boot_list ?_)
 refine PyProof.Rows.callWith_type1 ?_ hs3 rfl
 rw[hs3]
 show wpAny _ _ (spliced ((false,eval (.Call (.Name "range" p2) [a,b] [] pos2) X.env)::[])) _ _ s
 refine Calls.spliced_cons ?_
 refine Call_ (mX I hg hm boot_range (PyProof.Rows.callWith_type1 (thn (ha pos2 pins s σ H _ I h) fun us s1 zQq=>?_) (by rw[hs,hs2]) (by rw[hs2]; rfl)))
 obtain⟨vs,H1,I1,r1,q1⟩:=zQq
 obtain⟨i,j,e,⟨q1,q2,q3,q4⟩,hz,q⟩:=q1
 subst e
 cases r1 with
 | cons r rr=>
  cases rr with
  | cons r' rr=>
   cases rr
   obtain⟨t,rfl⟩:=r
   obtain⟨t',rfl⟩:=r'
   refine call_range_2 ?_
   refine Calls.spliced_nil ?_
   have I2:Inv X pins σ H1 { s1 with heap:=s1.heap.push { cls:=.type "range",data:=.fields #[.int i t,.int j t',.int 1 s1.toks] },toks:=s1.toks+1 }:=I1.kept fun b o e=>Heap.get?_push_of_some _ e
   refine call_list_range (n:=(j - i).toNat) (I.ok.hd hc) (IsRange.new ..) (small_one q1 q2 q3 q4) (by rw[rangeSize_one]; split <;> omega) (Nat.le_trans hz (by decide)) fun h' tk acc c' kp g' hit=>?_
   refine⟨.ref _,upd H1 _ (.lst ((List.range (j - i).toNat).map fun k=>.int (i+(k:Nat)))),I2.laid (t':=tk) kp (Nat.le_refl _) ?_,rfl,q _ (I2.hok.fresh (Nat.le_refl _))⟩
   refine⟨by rw[List.length_map,List.length_range]; exact hz,acc.toList,c',AG (by have:=hit.1; simpa using this) fun k v hv=>hit.2 k v (by simpa using hv),?_⟩
   simpa using g'
noncomputable def rDPop:V->List V->Hp->VK->Prop:=fun x vs H Q=>∃ a kvs k v,x = .ref a/\vs=[kV k]/\H a=some (.dK kvs)/\eE kvs k=some v/\Q v (upd H a (.dK (gB kvs k)))
theorem xR:MtR X "dict.pop" rDPop:=by
 intro pins s σ H x vs v us Q I rx rv h
 obtain⟨a,kvs,k,y,rfl,rfl,hd,hk,q⟩:=h
 cases (show v=Value.ref a from rx)
 obtain⟨u,rfl,ru⟩:=yL rv
 exact d_pop I hd ru hk (.inl rfl) fun w' s' I' rw'=>⟨y,_,I',rw',q⟩
theorem GK {k:Nat} {C:Addr} {ps:List Str} {sp:Sp} {E:XK} {x:Str} {p pos:Pos} (c:Maker X.prog X.w X.K X.mg X.base x C k ps sp) (hr:Room (k+1) X.A) (hx:eU (CXE X.prog X.w) X E) (hg:Gl X x:=by rfl) (hdb:(x == ("__debug__" : Str))=false:=by decide) :
  PE X (.Call (.Name x p) [] [] pos) (tMk C sp E eQ):=by
 obtain⟨f,fd,F,M,hm,hb⟩:=c.ex
 intro pins s σ H Q I h
 exact Da M F hr hg hm hb .nil hx hdb pins s σ H Q I (uX h)
noncomputable def tLT (K:PySem.W.Frag) (ta:TE):TT:=fun σ H Q=>ta σ H fun x H'=>∃ a xs,x = .ref a/\SqL K H' a xs/\Q (!xs.isEmpty) H'
theorem e8 (K:PySem.W.Frag) {a:Expr} {ta:TE} (ha:PE X a ta) (he:∀ whole,isTrue a X.env whole=(do let v <- whole; standAt a.pos; holding [v] (truthy v)):=by intro _; rfl) (hK:X.K=K:=by rfl):PT X a (tLT K ta):=by
 subst hK
 intro pins s σ H Q I h
 refine isTrue_plain (thn (ha pins s σ H _ I h) fun v s1 ⟨x,H1,I1,r1,a1,xs,ex,hq,q1⟩=>Fw pins s1 σ H1 x v Q I1 r1 ?_) (he _)
 subst ex
 exact⟨_,.inl ⟨xs,hq,rfl⟩,q1⟩
theorem pJ (K:PySem.W.Frag) {T id:String} {name:Str} {r:V->List V->Hp->VK->Prop} {o e:Expr} {es:List Expr} {to:TE} {t:TA} {apos cpos:Pos} (pa:PlainAttrs T) (slot:Slot T name id) (hty:typeOf (.builtin id)=pure (.type "method_descriptor")) (hm:MtR X id r) (ho:PE X o to) (ha:PA X (e::es) t)
  (hbase:attributeBase o name X.env (eval o X.env)=eval o X.env:=by rfl)
  (hfew:((backTo cpos (starEach (e::es) X.env)).all (fun x=>!x.1) && (backToKw cpos (keywordEach [] X.env)).all (fun x=>x.1.isSome)
   && decide ((e::es).length+([]:List Keyword).length+(if ([]:List Keyword).isEmpty then 0 else 1)<30))=true:=by rfl)
  (hline:(apos.endLine == cpos.line)=true:=by rfl) (hs:starEach (e::es) X.env=(false,eval e X.env)::starEach es X.env:=by rfl) (hplain:(backTo cpos (starEach es X.env)).any (·.1)=false:=by rfl) (hK:X.K=K:=by rfl) :
  PE X (.Call (.Attribute o name apos) (e::es) [] cpos) (tBM K T r to t):=by
 subst hK
 exact pe_bm pa slot hty hm ho ha hbase hfew hline hs hplain
end
end L2
end
section
namespace L2
open PySem PySem.Spec PyProof.Rows
section
variable {X:Cx}
theorem vI {prog:Program} {w:World} {kvs:List (Key × Value)} {ns:List Str} (hk:kvs.map (·.1)=ns.map Sum.inr):∀ {acc:List Value},acc.length=kvs.length->(∀ (j:Nat) (v:Value),acc[j]? = some v->∃ k x,kvs[j]? = some (k,x)/\(cE prog w).is k v=true)->StrsAre acc ns:=by
 induction kvs generalizing ns with
 | nil=>
  intro acc hl _
  cases ns with
  | nil=>
   cases acc with
   | nil=>exact .nil
   | cons _ _=>simp at hl
  | cons _ _=>simp at hk
 | cons kv kvs ih=>
  intro acc hl h
  cases ns with
  | nil=>simp at hk
  | cons n ns=>
   cases acc with
   | nil=>simp at hl
   | cons v acc=>
    simp only[List.map_cons,List.cons.injEq]at hk
    obtain⟨k,x,h1,h2⟩:=h 0 v rfl
    have h1:kv=(k,x):=by simpa using h1
    subst h1
    have hk1:k=Sum.inr n:=hk.1
    subst hk1
    obtain⟨t,rfl⟩:∃ t,v = .str n t:=by
     rcases cM (k:=Sum.inr n) (v:=v) h2 with ⟨i,t,e,_⟩ | ⟨y,t,e,e2⟩
     ·cases e
     ·cases e
      exact⟨t,e2⟩
    exact .cons n t (ih hk.2 (by simpa using hl) fun j v hv=>by
     obtain⟨k,x,h1,h2⟩:=h (j+1) v (by simpa using hv)
     exact⟨k,x,by simpa using h1,h2⟩)
theorem oG:∀ {vs:List Value} {ss:List Str},StrsAre vs ss->bQ (ss.map V.str) vs
 | _,_,.nil=>.nil
 | _,_,.cons y t h=>.cons ⟨t,rfl⟩ (oG h)
theorem vH {v₁ v₂ : Value} {rest:List Value} {ss:List Str} (h:StrsAre (v₁ :: v₂ :: rest) ss):keyKind' (v₁ :: v₂ :: rest).toArray=pure oneType':=by
 exact keyKind_strs h
noncomputable def DI:List V->Hp->VK->Prop:=fun xs H Q=>∃ d kvs ns,xs=[.ref d]/\H d=some (.dK kvs)/\kvs.map (·.1)=ns.map Sum.inr/\ns.length<64/\
 ∀ p ms,List.Perm ms ns->sortedS ms=true->H p=none->Q (.ref p) (upd H p (.lst (ms.map .str)))
theorem yB (hc:X.calm=true):eX X (.builtin "sorted") DI:=by
 intro pins s σ H xs us Q I r h
 obtain⟨d,kvs,ns,rfl,hd,hk,hl,q⟩:=h
 cases r with
 | cons r1 r2=>
  cases r2
  cases (show _=Value.ref d from r1)
  obtain⟨hz,hsm,vs,rel,o,es,ep,dd⟩:=vU I.hok hd
  have hh:X.A.in1.handled=none:=I.ok.hd hc
  have hlen:vs.length=ns.length:=by
   have h1:=rel.length
   have h2:=congrArg List.length hk
   rw[List.length_map,List.length_map]at h2
   omega
  have hkv:vs.map (·.1)=ns.map Sum.inr:=by rw[<- qV rel]; exact hk
  refine wpAny_call (codeAny_call_builtin plain_sorted entry_sorted (wpAny_of_eq (gM _) ?_))
  show wpAny _ _ (checkCount "sorted" 1 1 1 >>= _) _ _ s
  refine wpAny_bind (wpAny_of_eq (a:=()) (by rfl) ?_)
  refine wpAny_bind (PySem.W.kdu_collect (PySem.W.kdl_dict (knd:=cE X.prog X.w) (kvs:=vs) (ep:=ep) hsm) hh ⟨o,es,dd⟩ (by rw[hlen]; exact Nat.le_of_lt (Nat.lt_trans hl (by decide))) fun h' tk acc keep hit=>?_)
  have hacc:acc.toList.length=vs.length:=by
   have:=hit.1
   simpa using this
  have hstrs:StrsAre acc.toList ns:=vI (prog:=X.prog) (w:=X.w) hkv hacc fun j v hv=>hit.2 j v (by simpa using hv)
  refine wpAny_bind (wpAny_newList ?_ (by rw[hacc,hlen]; exact Nat.le_of_lt (Nat.lt_trans hl (by decide))))
  generalize eh2:h'.push { cls:=.type "list",data:=.seq acc.toList.toArray }=h2
  have g2:h2.get? h'.objs.size=some (seqObj "list" acc.toList.toArray 0):=by
   rw[<- eh2]
   exact Heap.get?_push_size _ rfl
  refine wpAny_bind (wpAny_holding ?_)
  refine wpAny_call_entry (T:="list") PyProof.Rows.slot_list_sort ⟨_,g2,rfl⟩ PyProof.Rows.entry_list_sort ?_ (PyProof.Rows.args_list_sort _)
  refine list_sort_treeK strKind_oneLt g2 hstrs.keysOf (fun v₁ v₂ rest e=>vH (e ▸ hstrs)) (by rw[hacc,hlen]; exact hl) fun st' p1 p2=>?_
  obtain⟨ms,hout,perm,pw⟩:=sorted_out_str hstrs p1 p2
  generalize (arrOf st').map (fun x=>x.snd)=out at hout
  refine⟨_,rfl,wpAny_pure ?_⟩
  obtain⟨ep2,gat⟩:=sortedHeap_at (h:=h2) (a:=h'.objs.size) (vs:=acc.toList) (out:=out) g2
  have hf:H h'.objs.size=none:=(I.kept (t':=tk) keep).hok.fresh (Nat.le_refl _)
  refine⟨.ref h'.objs.size,upd H h'.objs.size (.lst (ms.map .str)),(I.kept (t':=tk) keep).laid (t':=tk) (fun b u e=>?_) (Nat.le_refl _) ?_,rfl,q _ ms perm pw hf⟩
  ·have hb:b<h'.objs.size:=Heap.lt_size e
   have h2s:h2.objs.size=h'.objs.size+1:=by rw[<- eh2]; exact Heap.size_push _ _
   rw[sortedHeap_old (Nat.ne_of_lt hb) (by rw[h2s]; exact Nat.lt_succ_of_lt hb),<- eh2]
   exact Heap.get?_push_of_some _ e
  ·refine⟨?_,out.toList,ep2,oG hout,?_⟩
   ·rw[List.length_map,perm.length_eq]
    exact Nat.le_of_lt (Nat.lt_trans hl (by decide))
   ·simpa [seqObj] using gat
noncomputable def Its (x:Str):It:=⟨fun i _=>i<x.cps.size,fun i H v H'=>H'=H/\∃ c,x.cps[i]? = some c/\v = .str ⟨#[c]⟩,fun i _=>x.cps.size<=i⟩
theorem C1 {P:Program} {w:World} {K:PySem.W.Frag} {tg:Expr} (x:Str) (t:Tok) (it:Addr) (hx:(x.cps.all fun c=>decide (c<128))=true):Turn P w K tg (Its x) [it] it (fun i h=>h.IsStrIter it "str_ascii_iterator" x t i) where
 mem:=by simp
 obj:=fun i h st b hb=>by
  have e:b=it:=by simpa using hb
  subst e
  obtain⟨o,e,c,d⟩:=st
  exact⟨o,e,fun v z=>by rw[d]at z; cases z⟩
 keep:=fun i h h' st k=>by
  obtain⟨o,e,r⟩:=st
  exact⟨o,k it (by simp) o e,r⟩
 item:=by
  intro X hP hw hK hc i pins s σ H E I hf st hg
  subst hP hw hK
  have hg:i<x.cps.size:=hg
  obtain⟨f0,f1,f2,f3,f4,f5⟩:=hf it (by simp)
  refine wpAny_pyNext_ascii_item st (c:=x.cps[i]) (by simp [hg]) fun h' st' sb=>?_
  have I1:Inv X pins σ H { s with heap:=h',toks:=s.toks+1 }:=I.turned (t':=s.toks+1) (fun b o hb e=>(sb.2 b hb).trans e) f0 f1 f3 f4 f5
  obtain⟨o,e,c,d⟩:=id st'
  exact⟨_,rfl,Ba (s:={ s with heap:=h',toks:=s.toks+1 }) e c d (by decide) ⟨.str ⟨#[x.cps[i]]⟩,H,I1,⟨_,rfl⟩,⟨rfl,_,by simp [hg],rfl⟩,st',fun b hb=>(hf b hb).1⟩⟩
 done:=by
  intro X hP hw hK hc i pins s σ H E I hf st hg
  subst hP hw hK
  have hg:x.cps.size<=i:=hg
  obtain⟨f0,f1,f2,f3,f4,f5⟩:=hf it (by simp)
  exact wpAny_pyNext_ascii_end (I.ok.hd hc) st (by simp [hg]) fun h' eb=>⟨rfl,I.turned (t':=s.toks) (fun b o hb e=>eb b o hb e) f0 f1 f3 f4 f5⟩
 self:=fun _ _ _ _ _ st h=>wpAny_pyIter_striter_ascii st h
noncomputable def iStr (tl:TE):TI:=fun σ H R=>tl σ H fun v H1=>∃ x:Str,v = .str x/\(x.cps.all fun c=>decide (c<128))=true/\R (Its x) H1
theorem GH {tg l:Expr} {tl:TE} (hl:PE X l tl):PI X tg l (iStr tl):=by
 intro pins s σ H R I h
 refine thn (hl pins s σ H _ I h) fun v s1 zQq=>?_
 obtain⟨y,H1,I1,r1,q1⟩:=zQq
 obtain⟨x,e,hx,q⟩:=q1
 subst e
 obtain⟨t,rfl⟩:=r1
 refine wpAny_pyIter_strU ?_
 have ht:strIterType x = "str_ascii_iterator":=by unfold strIterType; rw[if_pos hx]
 rw[ht]
 refine⟨s1.heap.objs.size,[s1.heap.objs.size],_,_,H1,rfl,I1.kept (t':=s1.toks) fun b o e=>Heap.get?_push_of_some _ e,C1 x t _ hx,⟨_,Heap.get?_push_size _ rfl,rfl,rfl⟩,fun b hb=>?_,q⟩
 have e:b=s1.heap.objs.size:=by simpa using hb
 subst e
 exact I1.fpOk (Nat.le_refl _) (I1.hok.fresh (Nat.le_refl _))
theorem Er {H:Hp} (x:Str):Src (Its x) H x.cps.size (fun i v _=>∃ c,x.cps[i]? = some c/\v = .str ⟨#[c]⟩) where
 go:=fun i H' hi s=>hi
 yld:=fun i H' v H'' hi s y=>⟨by rw[y.1]; exact aF.refl _,y.2⟩
 stop:=fun H' s=>Nat.le_refl _
end
end L2
end
section
namespace L2
open PySem PySem.Spec PyProof.Rows
section
variable {X:Cx} {pins:List (Addr × Obj)} {σ : St} {H:Hp} {s:Shared}
end
end L2
end
section
namespace L2
open PySem PySem.Spec PyProof.Rows
section
variable {X:Cx}
end
end L2
end
section
namespace TS
open PySem PyProof.Rows
noncomputable abbrev SM:=StateT SortSt Sem
noncomputable def kk (κ : KeyKind) (p:Keyed):κ.α:=(κ.keyOf p.1).getD κ.dflt
noncomputable def Ky (κ : KeyKind) (p:Keyed):Prop:=∃ a,κ.keyOf p.1=some a
noncomputable def Le (κ : KeyKind) (p q:Keyed):Prop:=κ.kle (kk κ p) (kk κ q)
noncomputable def Lt (κ : KeyKind) (p q:Keyed):Prop:=κ.klt (kk κ p) (kk κ q)
theorem Le.refl {κ : KeyKind} (p:Keyed):Le κ p p:=KeyOrd.kle_refl _
theorem Le.trans {κ : KeyKind} {p q r:Keyed} (h:Le κ p q) (h':Le κ q r):Le κ p r:=KeyOrd.kle_trans h h'
theorem Lt.le {κ : KeyKind} {p q:Keyed} (h:Lt κ p q):Le κ p q:=KeyOrd.kle_of_klt h
theorem Dm {κ : KeyKind} {p q:Keyed} (h:κ.blt (kk κ p) (kk κ q)=false):Le κ q p:=h
noncomputable def AllK (κ : KeyKind) (xs:Array Keyed):Prop:=∀ (i:Nat) p,xs[i]? = some p->Ky κ p
section
variable {prog:Program} {w:World} {A:Around} {E:Value->Shared->Prop} {s:Shared} {κ : KeyKind}
theorem yJ (hO:κ.OneLt) {st:SortSt} {x y:Keyed} {Q:Option Bool->SortSt->Prop} (hk:kindOf st=oneType') (hx:Ky κ x) (hy:Ky κ y) (h:Q (some (κ.blt (kk κ x) (kk κ y))) st):wpS (model prog w) A E s (lt' x y) Q st:=by
 obtain⟨a,ha⟩:=hx
 obtain⟨b,hb⟩:=hy
 have h:Q (some (κ.blt a b)) st:=by
  unfold kk at h
  rw[ha,hb]at h
  exact h
 rw[lt'_eq]
 refine wpS_bind (wpS_get ?_)
 rw[hk,keyLt'_oneType]
 exact wpS_bind (wpS_lift (wpAny_attempt (hO prog w A _ s x.1 y.1 a b ha hb ⟨rfl,wpS_pure h⟩)))
theorem bG {st:SortSt} {xs:Array Keyed} {i:Nat} {p:Keyed} {Q:Keyed->SortSt->Prop} (e:xs[i]? = some p) (h:Q p st):wpS (model prog w) A E s (elem' xs i) Q st:=by
 rw[elem'_eq,e]
 exact wpS_pure h
end
noncomputable def fT:Bool->Keyed->Array Keyed->Nat->Nat->Nat->SM (Option Nat):=sortPriv% PySem.Builtin.gallop
noncomputable def bey (left:Bool) (key:Keyed) (arr:Array Keyed) (base i:Nat):SM (Option Bool):=do
 let x <- elem' arr (base+i)
 if left then lt' x key else return (<- lt' key x).map (!·)
theorem Cg (left:Bool) (key:Keyed) (arr:Array Keyed) (base n hint:Nat):fT left key arr base n hint=(do
  let mut l:=0; let mut o:=1; let mut u:=0; let mut v:=0
  let some rt <- bey left key arr base hint | return none
  if rt then
   let t:=n - hint
   for _ in [0:n] do
    if o ≥ t then break
    let some r <- bey left key arr base (hint+o) | return none
    if !r then break
    l:=o; o:=2 * o+1
   u:=hint+l+1; v:=hint+min o t
  else
   let t:=hint+1
   for _ in [0:n] do
    if o ≥ t then break
    let some r <- bey left key arr base (hint - o) | return none
    if r then break
    l:=o; o:=2 * o+1
   u:=hint+1 - min o t; v:=hint - l
  for _ in [0:n] do
   if u ≥ v then break
   let m:=u+(v - u) / 2
   let some r <- bey left key arr base m | return none
   if r then u:=m+1 else v:=m
  return some v):=rfl
section
variable {prog:Program} {w:World} {A:Around} {E:Value->Shared->Prop} {s:Shared} {κ : KeyKind}
noncomputable def Fl (M:Model) (A:Around) (E:Value->Shared->Prop) (s:Shared) (b:Nat->SM (Option Bool)) (n:Nat) (st:SortSt) (B:Nat->Bool):Prop:=∀ i,i<n->∀ Q:Option Bool->SortSt->Prop,Q (some (B i)) st->wpS M A E s (b i) Q st
theorem Eb {b:Nat->SM (Option Bool)} {n lo hi:Nat} {st:SortSt} {B:Nat->Bool} {Q:Option Nat->SortSt->Prop} (ask:Fl (model prog w) A E s b n st B) (mono:∀ i j,i<=j->j<n->B j=true->B i=true) (h1:lo<=hi) (h2:hi<=n) (hlo:∀ i,i<lo->B i=true) (hhi:∀ i,hi<=i->i<n->B i=false)
  (h:∀ k,k<=n->(∀ i,i<k->B i=true)->(∀ i,k<=i->i<n->B i=false)->Q (some k) st):wpS (model prog w) A E s (do
   let mut u:=lo; let mut v:=hi
   for _ in [0:n] do
    if u ≥ v then break
    let m:=u+(v - u) / 2
    let some r <- b m | return none
    if r then u:=m+1 else v:=m
   return some v) Q st:=by
 dsimp only
 refine wpS_bind (wpS_mono (wpS_forRange (I:=fun x c st'=>st'=st/\∃ l r,c=(none,l,r)/\l<=r/\r<=n/\r - l<=n - x/\(∀ i,i<l->B i=true)/\(∀ i,r<=i->i<n->B i=false))
  (Q:=fun c st'=>st'=st/\∃ l,c=(none,l,l)/\l<=n/\(∀ i,i<l->B i=true)/\(∀ i,l<=i->i<n->B i=false)) ?step ?fin ?init) ?post)
 case init=>exact⟨rfl,lo,hi,rfl,h1,h2,by omega,hlo,hhi⟩
 case fin=>
  rintro c st' ⟨rfl,l,r,rfl,a1,a2,a3,a4,a5⟩
  have:l=r:=by omega
  subst this
  exact⟨rfl,l,rfl,a2,a4,a5⟩
 case step=>
  rintro x c st' _ hx ⟨rfl,l,r,rfl,a1,a2,a3,a4,a5⟩
  dsimp only
  by_cases hlr:l ≥ r
  ·rw[if_pos hlr]
   have:l=r:=by omega
   subst this
   exact wpS_pure ⟨rfl,l,rfl,a2,a4,a5⟩
  ·rw[if_neg hlr]
   have hm:l+(r - l) / 2<r:=by omega
   refine wpS_bind (ask _ (by omega) _ ?_)
   cases hb:B (l+(r - l) / 2) with
   | true=>
    dsimp only
    rw[if_pos rfl]
    refine wpS_pure ⟨rfl,_,_,rfl,by omega,a2,by omega,fun i hi=>mono i _ (by omega) (by omega) hb,a5⟩
   | false=>
    dsimp only
    rw[if_neg (by decide)]
    refine wpS_pure ⟨rfl,_,_,rfl,by omega,by omega,by omega,a4,fun i h1 h2=>?_⟩
    cases hi:B i with
    | false=>rfl
    | true=>
     have:=mono _ i h1 h2 hi
     rw[hb]at this
     cases this
 case post=>
  rintro c st' ⟨rfl,l,rfl,a2,a4,a5⟩
  exact wpS_pure (h l a2 a4 a5)
theorem vP {left:Bool} {key:Keyed} {arr:Array Keyed} {base n hint:Nat} {st:SortSt} {B:Nat->Bool} {Q:Option Nat->SortSt->Prop} (ask:Fl (model prog w) A E s (bey left key arr base) n st B) (mono:∀ i j,i<=j->j<n->B j=true->B i=true) (hh:hint<n)
  (h:∀ k,k<=n->(∀ i,i<k->B i=true)->(∀ i,k<=i->i<n->B i=false)->Q (some k) st):wpS (model prog w) A E s (fT left key arr base n hint) Q st:=by
 have anti:∀ i j,i<=j->j<n->B i=false->B j=false:=fun i j h1 h2 hb=>by
  cases hj:B j with
  | false=>rfl
  | true=>rw[mono i j h1 h2 hj]at hb; cases hb
 rw[Cg]
 dsimp only
 refine wpS_bind (ask hint hh _ ?_)
 cases hb:B hint with
 | true=>
  dsimp only
  rw[if_pos rfl]
  refine wpS_bind (wpS_mono (wpS_forRange (I:=fun x c st'=>st'=st/\∃ l r,c=(none,l,r)/\l<r/\x+1<=r/\hint+l<n/\B (hint+l)=true)
   (Q:=fun c st'=>st'=st/\∃ l r,c=(none,l,r)/\l<r/\hint+l<n/\B (hint+l)=true/\(n - hint<=r\/(hint+r<n/\B (hint+r)=false))) ?step ?fin ?init) ?post)
  case init=>exact⟨rfl,0,1,rfl,by omega,by omega,hh,hb⟩
  case fin=>
   rintro c st' ⟨rfl,l,r,rfl,a1,a2,a3,a4⟩
   exact⟨rfl,l,r,rfl,a1,a3,a4,.inl (by omega)⟩
  case step=>
   rintro x c st' _ hx ⟨rfl,l,r,rfl,a1,a2,a3,a4⟩
   dsimp only
   by_cases hr:r ≥ n - hint
   ·rw[if_pos hr]
    exact wpS_pure ⟨rfl,l,r,rfl,a1,a3,a4,.inl hr⟩
   ·rw[if_neg hr]
    refine wpS_bind (ask _ (by omega) _ ?_)
    cases hbr:B (hint+r) with
    | true=>
     dsimp only
     rw[if_neg (by decide)]
     exact wpS_pure ⟨rfl,r,2 * r+1,rfl,by omega,by omega,by omega,hbr⟩
    | false=>
     dsimp only
     rw[if_pos (show (!false)=true from rfl)]
     exact wpS_pure ⟨rfl,l,r,rfl,a1,a3,a4,.inr ⟨by omega,hbr⟩⟩
  case post=>
   rintro c st' ⟨rfl,l,r,rfl,a1,a3,a4,a5⟩
   dsimp only
   refine Eb ask mono ?_ ?_ (fun i hi=>mono i (hint+l) (by omega) a3 a4) (fun i h1 h2=>?_) h
   ·omega
   ·omega
   ·rcases a5 with a5 | ⟨a5,a6⟩
    ·omega
    ·exact anti (hint+r) i (by omega) h2 a6
 | false=>
  dsimp only
  rw[if_neg (by decide)]
  refine wpS_bind (wpS_mono (wpS_forRange (I:=fun x c st'=>st'=st/\∃ l r,c=(none,l,r)/\l<r/\x+1<=r/\l<=hint/\B (hint - l)=false)
   (Q:=fun c st'=>st'=st/\∃ l r,c=(none,l,r)/\l<r/\l<=hint/\B (hint - l)=false/\(hint+1<=r\/(r<=hint/\B (hint - r)=true))) ?step ?fin ?init) ?post)
  case init=>exact⟨rfl,0,1,rfl,by omega,by omega,by omega,hb⟩
  case fin=>
   rintro c st' ⟨rfl,l,r,rfl,a1,a2,a3,a4⟩
   exact⟨rfl,l,r,rfl,a1,a3,a4,.inl (by omega)⟩
  case step=>
   rintro x c st' _ hx ⟨rfl,l,r,rfl,a1,a2,a3,a4⟩
   dsimp only
   by_cases hr:r ≥ hint+1
   ·rw[if_pos hr]
    exact wpS_pure ⟨rfl,l,r,rfl,a1,a3,a4,.inl hr⟩
   ·rw[if_neg hr]
    refine wpS_bind (ask _ (by omega) _ ?_)
    cases hbr:B (hint - r) with
    | false=>
     dsimp only
     rw[if_neg (by decide)]
     exact wpS_pure ⟨rfl,r,2 * r+1,rfl,by omega,by omega,by omega,hbr⟩
    | true=>
     dsimp only
     rw[if_pos rfl]
     exact wpS_pure ⟨rfl,l,r,rfl,a1,a3,a4,.inr ⟨by omega,hbr⟩⟩
  case post=>
   rintro c st' ⟨rfl,l,r,rfl,a1,a3,a4,a5⟩
   dsimp only
   refine Eb ask mono ?_ ?_ (fun i hi=>?_) (fun i h1 h2=>anti (hint - l) i (by omega) h2 a4) h
   ·omega
   ·omega
   ·rcases a5 with a5 | ⟨a5,a6⟩
    ·omega
    ·exact mono i (hint - r) (by omega) (by omega) a6
theorem Cv (hO:κ.OneLt) {key:Keyed} {arr:Array Keyed} {base n:Nat} {st:SortSt} (hk:kindOf st=oneType') (hy:Ky κ key) (ha:AllK κ arr) (hn:base+n<=arr.size):Fl (model prog w) A E s (bey false key arr base) n st (fun i=>match arr[base+i]? with | some x=>!κ.blt (kk κ key) (kk κ x) | none=>false):=by
 intro i hi Q q
 have e:arr[base+i]? = some arr[base+i]:=getElem?_pos arr (base+i) (by omega)
 dsimp only at q
 rw[e]at q
 unfold bey
 refine wpS_bind (bG e ?_)
 rw[if_neg (by decide)]
 refine wpS_bind (yJ hO hk hy (ha _ _ e) (wpS_pure q))
theorem Ec (hO:κ.OneLt) {key:Keyed} {arr:Array Keyed} {base n:Nat} {st:SortSt} (hk:kindOf st=oneType') (hy:Ky κ key) (ha:AllK κ arr) (hn:base+n<=arr.size):Fl (model prog w) A E s (bey true key arr base) n st (fun i=>match arr[base+i]? with | some x=>κ.blt (kk κ x) (kk κ key) | none=>false):=by
 intro i hi Q q
 have e:arr[base+i]? = some arr[base+i]:=getElem?_pos arr (base+i) (by omega)
 dsimp only at q
 rw[e]at q
 unfold bey
 refine wpS_bind (bG e ?_)
 rw[if_pos rfl]
 exact yJ hO hk (ha _ _ e) hy q
theorem j6 (hO:κ.OneLt) {key:Keyed} {arr:Array Keyed} {base n hint:Nat} {st:SortSt} {Q:Option Nat->SortSt->Prop} (hk:kindOf st=oneType') (hy:Ky κ key) (ha:AllK κ arr) (hn:base+n<=arr.size) (hh:hint<n)
  (so:∀ (i j:Nat) p q,i<=j->j<n->arr[base+i]? = some p->arr[base+j]? = some q->Le κ p q)
  (h:∀ k,k<=n->(∀ (i:Nat) p,i<k->arr[base+i]? = some p->Le κ p key)->(∀ (i:Nat) p,k<=i->i<n->arr[base+i]? = some p->Lt κ key p)->Q (some k) st):wpS (model prog w) A E s (fT false key arr base n hint) Q st:=by
 refine vP (Cv hO hk hy ha hn) (fun i j hij hj hb=>?_) hh fun k hk' h1 h2=>h k hk' (fun i p hi e=>?_) (fun i p hi hi' e=>?_)
 ·have ei:arr[base+i]? = some arr[base+i]:=getElem?_pos arr (base+i) (by omega)
  have ej:arr[base+j]? = some arr[base+j]:=getElem?_pos arr (base+j) (by omega)
  rw[ei]
  rw[ej]at hb
  have hb:κ.blt (kk κ key) (kk κ arr[base+j])=false:=by simpa using hb
  have:κ.blt (kk κ key) (kk κ arr[base+i])=false:=Le.trans (κ:=κ) (so i j _ _ hij hj ei ej) hb
  dsimp only
  rw[this]
  rfl
 ·have:=h1 i hi
  rw[e]at this
  have this:(!κ.blt (kk κ key) (kk κ p))=true:=this
  show κ.blt (kk κ key) (kk κ p)=false
  simpa using this
 ·have:=h2 i hi hi'
  rw[e]at this
  have this:(!κ.blt (kk κ key) (kk κ p))=false:=this
  show κ.blt (kk κ key) (kk κ p)=true
  simpa using this
theorem gA (hO:κ.OneLt) {key:Keyed} {arr:Array Keyed} {base n hint:Nat} {st:SortSt} {Q:Option Nat->SortSt->Prop} (hk:kindOf st=oneType') (hy:Ky κ key) (ha:AllK κ arr) (hn:base+n<=arr.size) (hh:hint<n)
  (so:∀ (i j:Nat) p q,i<=j->j<n->arr[base+i]? = some p->arr[base+j]? = some q->Le κ p q)
  (h:∀ k,k<=n->(∀ (i:Nat) p,i<k->arr[base+i]? = some p->Lt κ p key)->(∀ (i:Nat) p,k<=i->i<n->arr[base+i]? = some p->Le κ key p)->Q (some k) st):wpS (model prog w) A E s (fT true key arr base n hint) Q st:=by
 refine vP (Ec hO hk hy ha hn) (fun i j hij hj hb=>?_) hh fun k hk' h1 h2=>h k hk' (fun i p hi e=>?_) (fun i p hi hi' e=>?_)
 ·have ei:arr[base+i]? = some arr[base+i]:=getElem?_pos arr (base+i) (by omega)
  have ej:arr[base+j]? = some arr[base+j]:=getElem?_pos arr (base+j) (by omega)
  rw[ei]
  rw[ej]at hb
  exact KeyOrd.klt_of_kle_of_klt (so i j _ _ hij hj ei ej) hb
 ·have:=h1 i hi
  rw[e]at this
  exact this
 ·have:=h2 i hi hi'
  rw[e]at this
  exact this
end
end TS
end
section
namespace TS
open PySem PyProof.Rows
noncomputable def c9 (st st':SortSt):Prop:=kindOf st'=kindOf st/\arrOf st'=arrOf st/\pendingOf st'=pendingOf st/\failedOf st'=failedOf st
theorem c9.refl (st:SortSt):c9 st st:=⟨rfl,rfl,rfl,rfl⟩
theorem c9.trans {a b c:SortSt} (h:c9 a b) (h':c9 b c):c9 a c:=⟨h'.1.trans h.1,h'.2.1.trans h.2.1,h'.2.2.1.trans h.2.2.1,h'.2.2.2.trans h.2.2.2⟩
noncomputable def B4:Nat->SM Unit:=sortPriv% PySem.Builtin.setMinGallop
noncomputable def sS:Array Keyed->Array Keyed->SM (Array Keyed):=sortPriv% PySem.Builtin.mergeLo
theorem Ex (g:Nat):B4 g=modify fun s=>SortSt.mk' (kindOf s) (arrOf s) (pendingOf s) g (failedOf s):=rfl
theorem Av (a b:Array Keyed):sS a b=(do
  rule "list.sort.merge-lo"; let tt:=a.size+b.size
  let fin (o:Array Keyed) (i j:Nat):=o++a.extract i a.size++b.extract j b.size
  let las (o:Array Keyed) (i j:Nat):=o++b.extract j b.size++a.extract i a.size
  let mut o:Array Keyed:=#[<- elem' b 0]; let mut i:=0; let mut j:=1
  if j == b.size then return fin o i j
  if i+1 == a.size then return las o i j
  let mut g:=gallopOf (<- get)
  for _ in [0:tt] do
   let mut p:=0; let mut q:=0
   for _ in [0:tt] do
    let some y <- lt' (<- elem' b j) (<- elem' a i) | return fin o i j
    if y then
     o:=o.push (<- elem' b j); j:=j+1; q:=q+1; p:=0
     if j == b.size then return fin o i j
     if q ≥ g then break
    else
     o:=o.push (<- elem' a i); i:=i+1; p:=p+1; q:=0
     if i+1 == a.size then return las o i j
     if p ≥ g then break
   rule "list.sort.gallop"; g:=g+1
   for _ in [0:tt] do
    if g > 1 then g:=g - 1
    B4 g
    let some k <- fT false (<- elem' b j) a i (a.size - i) 0 | return fin o i j
    p:=k
    if k > 0 then
     o:=o++a.extract i (i+k); i:=i+k
     if i+1 == a.size then return las o i j
     if i == a.size then return fin o i j
    o:=o.push (<- elem' b j); j:=j+1
    if j == b.size then return fin o i j
    let some k <- fT true (<- elem' a i) b j (b.size - j) 0 | return fin o i j
    q:=k
    if k > 0 then
     o:=o++b.extract j (j+k); j:=j+k
     if j == b.size then return fin o i j
    o:=o.push (<- elem' a i); i:=i+1
    if i+1 == a.size then return las o i j
    if p<7 && q<7 then break
   g:=g+1; B4 g
  unsupported "internal:list.sort.merge-bound"):=rfl
structure Mid (κ : KeyKind) (a b o:Array Keyed) (i j:Nat):Prop where
 la:i<=a.size
 lb:j<=b.size
 perm:o.toList.Perm (a.toList.take i++b.toList.take j)
 so:o.toList.Pairwise (Le κ)
 ua:∀ p∈o.toList,∀ (n:Nat) q,i<=n->a[n]? = some q->Le κ p q
 ub:∀ p∈o.toList,∀ (n:Nat) q,j<=n->b[n]? = some q->Le κ p q
noncomputable def lI (κ : KeyKind) (a b r:Array Keyed):Prop:=r.toList.Perm (a.toList++b.toList)/\r.toList.Pairwise (Le κ)
theorem oI {xs:Array Keyed} {i:Nat} {p:Keyed} (e:xs[i]? = some p):xs.toList.take (i+1)=xs.toList.take i++[p]:=by
 rw[List.take_add_one,Array.getElem?_toList,e]
 rfl
theorem dP {xs:Array Keyed} {i:Nat} {p:Keyed} (e:xs[i]? = some p):i<xs.size:=by
 rcases Nat.lt_or_ge i xs.size with h | h
 ·exact h
 ·rw[Array.getElem?_eq_none h]at e; cases e
theorem bF {xs:Array Keyed} {i:Nat} (h:i<xs.size):∃ p,xs[i]? = some p:=⟨_,getElem?_pos xs i h⟩
section
variable {κ : KeyKind} {a b o:Array Keyed} {i j:Nat}
theorem Mid.pa (m:Mid κ a b o i j) {p:Keyed} (e:a[i]? = some p) (sa:∀ (m n:Nat) p q,m<=n->a[m]? = some p->a[n]? = some q->Le κ p q) (h:∀ (n:Nat) q,j<=n->b[n]? = some q->Le κ p q):Mid κ a b (o.push p) (i+1) j where
 la:=dP e
 lb:=m.lb
 perm:=by
  rw[Array.toList_push,oI e,List.append_assoc]
  refine(m.perm.append_right [p]).trans ?_
  rw[List.append_assoc]
  exact List.Perm.append_left _ List.perm_append_comm
 so:=by
  rw[Array.toList_push,List.pairwise_append]
  exact⟨m.so,List.pairwise_singleton _ _,fun x hx y hy=>by rw[List.mem_singleton.mp hy]; exact m.ua x hx i p (Nat.le_refl _) e⟩
 ua:=fun x hx n q hn eq=>by
  rw[Array.toList_push,List.mem_append]at hx
  rcases hx with hx | hx
  ·exact m.ua x hx n q (by omega) eq
  ·rw[List.mem_singleton.mp hx]
   exact sa i n p q (by omega) e eq
 ub:=fun x hx n q hn eq=>by
  rw[Array.toList_push,List.mem_append]at hx
  rcases hx with hx | hx
  ·exact m.ub x hx n q hn eq
  ·rw[List.mem_singleton.mp hx]
   exact h n q hn eq
theorem Mid.pb (m:Mid κ a b o i j) {p:Keyed} (e:b[j]? = some p) (sb:∀ (m n:Nat) p q,m<=n->b[m]? = some p->b[n]? = some q->Le κ p q) (h:∀ (n:Nat) q,i<=n->a[n]? = some q->Le κ p q):Mid κ a b (o.push p) i (j+1) where
 la:=m.la
 lb:=dP e
 perm:=by
  rw[Array.toList_push,oI e,<- List.append_assoc]
  exact m.perm.append_right [p]
 so:=by
  rw[Array.toList_push,List.pairwise_append]
  exact⟨m.so,List.pairwise_singleton _ _,fun x hx y hy=>by rw[List.mem_singleton.mp hy]; exact m.ub x hx j p (Nat.le_refl _) e⟩
 ua:=fun x hx n q hn eq=>by
  rw[Array.toList_push,List.mem_append]at hx
  rcases hx with hx | hx
  ·exact m.ua x hx n q hn eq
  ·rw[List.mem_singleton.mp hx]
   exact h n q hn eq
 ub:=fun x hx n q hn eq=>by
  rw[Array.toList_push,List.mem_append]at hx
  rcases hx with hx | hx
  ·exact m.ub x hx n q (by omega) eq
  ·rw[List.mem_singleton.mp hx]
   exact sb j n p q (by omega) e eq
theorem zM {xs:Array Keyed} {i k:Nat} {p:Keyed} (h:i<=k) (e:xs[k]? = some p):xs.extract i (k+1)=(xs.extract i k).push p:=by
 have hk:=dP e
 have ep:xs[k]=p:=by
  rw[getElem?_pos xs k hk]at e
  exact Option.some.inj e
 rw[<- ep]
 exact(Array.push_extract_getElem hk).symm ▸ (by rw[Nat.min_eq_left h])
theorem Mid.as (sa:∀ (m n:Nat) p q,m<=n->a[m]? = some p->a[n]? = some q->Le κ p q):∀ {k:Nat},i<=k->k<=a.size->Mid κ a b o i j->(∀ (n:Nat) p,i<=n->n<k->a[n]? = some p->∀ (n':Nat) q,j<=n'->b[n']? = some q->Le κ p q)->Mid κ a b (o++a.extract i k) k j:=by
 intro k hik
 induction hik with
 | refl=>
  intro _ m _
  have:a.extract i i = #[]:=by simp; omega
  rw[this,Array.append_empty]
  exact m
 | @step k hk ih=>
  intro hks m h
  obtain⟨p,e⟩:=bF (show k<a.size from hks)
  rw[zM hk e,<- Array.push_append]
  exact(ih (by omega) m fun n p h1 h2=>h n p h1 (by omega)).pa e sa (h k p hk (by omega) e)
theorem Mid.bs (sb:∀ (m n:Nat) p q,m<=n->b[m]? = some p->b[n]? = some q->Le κ p q):∀ {k:Nat},j<=k->k<=b.size->Mid κ a b o i j->(∀ (n:Nat) p,j<=n->n<k->b[n]? = some p->∀ (n':Nat) q,i<=n'->a[n']? = some q->Le κ p q)->Mid κ a b (o++b.extract j k) i k:=by
 intro k hik
 induction hik with
 | refl=>
  intro _ m _
  have:b.extract j j = #[]:=by simp; omega
  rw[this,Array.append_empty]
  exact m
 | @step k hk ih=>
  intro hks m h
  obtain⟨p,e⟩:=bF (show k<b.size from hks)
  rw[zM hk e,<- Array.push_append]
  exact(ih (by omega) m fun n p h1 h2=>h n p h1 (by omega)).pb e sb (h k p hk (by omega) e)
theorem Mid.good (m:Mid κ a b o a.size b.size):lI κ a b o:=by
 refine⟨?_,m.so⟩
 have:=m.perm
 rw[List.take_of_length_le (by simp),List.take_of_length_le (by simp)]at this
 exact this
structure Two (κ : KeyKind) (a b:Array Keyed):Prop where
 ka:AllK κ a
 kb:AllK κ b
 sa:∀ (m n:Nat) p q,m<=n->a[m]? = some p->a[n]? = some q->Le κ p q
 sb:∀ (m n:Nat) p q,m<=n->b[m]? = some p->b[n]? = some q->Le κ p q
 a0:0<a.size
 b0:0<b.size
 fst:∀ p q,a[0]? = some p->b[0]? = some q->Le κ q p
 lst:∀ p q,a[a.size - 1]? = some p->b[b.size - 1]? = some q->Le κ q p
theorem Mid.finB (T:Two κ a b) (m:Mid κ a b o i b.size):lI κ a b (o++a.extract i a.size++b.extract b.size b.size):=by
 have h1:=m.as T.sa m.la (Nat.le_refl _) (fun n p _ _ _ n' q hn e=>by have:=dP e; omega)
 exact(h1.bs T.sb (Nat.le_refl _) (Nat.le_refl _) (fun n p h1 h2=>by omega)).good
theorem Mid.finA (T:Two κ a b) (m:Mid κ a b o a.size j):lI κ a b (o++a.extract a.size a.size++b.extract j b.size):=by
 have h1:=m.as T.sa (Nat.le_refl _) (Nat.le_refl _) (fun n p h1 h2=>by omega)
 exact(h1.bs T.sb m.lb (Nat.le_refl _) (fun n p _ _ _ n' q hn e=>by have:=dP e; omega)).good
theorem Mid.las (T:Two κ a b) (m:Mid κ a b o i j) (hi:i+1=a.size):lI κ a b (o++b.extract j b.size++a.extract i a.size):=by
 have h1:=m.bs T.sb m.lb (Nat.le_refl _) (fun n p _ hn e n' q hn' e'=>by
  have:=dP e'
  obtain⟨z,ez⟩:=bF (show b.size - 1<b.size by have:=T.b0; omega)
  have hz:n'=a.size - 1:=by omega
  rw[hz]at e'
  exact(T.sb n (b.size - 1) p z (by omega) e ez).trans (T.lst q z e' ez))
 exact(h1.as T.sa m.la (Nat.le_refl _) (fun n p _ _ _ n' q hn e=>by have:=dP e; omega)).good
end
section
variable {prog:Program} {w:World} {A:Around} {E:Value->Shared->Prop} {s:Shared} {κ : KeyKind} {a b:Array Keyed}
theorem qN {st:SortSt} {g:Nat} {Q:Unit->SortSt->Prop} (h:∀ st',c9 st st'->Q () st'):wpS (model prog w) A E s (B4 g) Q st:=by
 rw[Ex]
 exact wpS_modify (h _ ⟨rfl,rfl,rfl,rfl⟩)
theorem bT {m n:Nat} (h:¬ m=n):¬ (m == n)=true:=by simpa using h
theorem bN {m n:Nat} (h:m=n):(m == n)=true:=by simpa using h
theorem BH {α : Type} {F:Nat->_} {T:Nat->_} {Q:α->SortSt->Prop} {st:SortSt} (h:∀ g,wpS (model prog w) A E s (F g) Q st) (hx:∀ g,T g=F (g - 1)):∀ g,wpS (model prog w) A E s (if g > 1 then T g else F g) Q st:=by
 intro g
 split
 ·rw[hx]
  exact h _
 ·exact h _
set_option maxHeartbeats 2000000 in
theorem Au (hO:κ.OneLt) (T:Two κ a b) {st:SortSt} (hk:kindOf st=oneType') {Q:Array Keyed->SortSt->Prop} (h:∀ r st',c9 st st'->lI κ a b r->Q r st'):wpS (model prog w) A E s (sS a b) Q st:=by
 rw[Av]
 refine wpS_bind (wpS_lift (wpAny_rule ⟨rfl,?_⟩))
 dsimp only
 obtain⟨b1,eb1⟩:=bF T.b0
 refine wpS_bind (bG eb1 ?_)
 have m0:Mid κ a b #[b1] 0 1:=by
  refine⟨Nat.zero_le _,T.b0,?_,List.pairwise_singleton _ _,fun p hp n q hn e=>?_,fun p hp n q hn e=>?_⟩
  ·rw[oI (i:=0) eb1]
   exact List.Perm.refl _
  ·have hp:p=b1:=by simpa using hp
   rw[hp]
   obtain⟨a1,ea1⟩:=bF T.a0
   exact(T.fst a1 b1 ea1 eb1).trans (T.sa 0 n a1 q (by omega) ea1 e)
  ·have hp:p=b1:=by simpa using hp
   rw[hp]
   exact T.sb 0 n b1 q (by omega) eb1 e
 by_cases h1:1=b.size
 ·rw[if_pos (bN h1)]
  refine wpS_pure (h _ _ (c9.refl _) ?_)
  rw[h1]at m0 ⊢
  exact m0.finB T
 rw[if_neg (bT h1)]
 by_cases h2:0+1=a.size
 ·rw[if_pos (bN h2)]
  exact wpS_pure (h _ _ (c9.refl _) (m0.las T h2))
 rw[if_neg (bT h2)]
 refine wpS_bind (wpS_get ?_)
 have a1:=T.a0
 have b1':=T.b0
 refine wpS_bind (wpS_mono (wpS_forRange (I:=fun x c st'=>c9 st st'/\∃ o i j g,c=(none,o,i,j,g)/\Mid κ a b o i j/\i+1<a.size/\j<b.size/\x<=i+j)
  (Q:=fun c st'=>c9 st st'/\∃ r o,c=(some r,o)/\lI κ a b r) ?step ?fin ⟨c9.refl _,_,_,_,_,rfl,m0,by omega,by omega,by omega⟩) ?post)
 case fin=>
  rintro c st' ⟨_,o,i,j,g,_,_,h3,h4,h5⟩
  omega
 case post=>
  rintro c st' ⟨ss,r,o,rfl,g⟩
  exact wpS_pure (h r st' ss g)
 case step=>
  rintro x c st' _ hx ⟨ss,o,i,j,g,rfl,m,h3,h4,h5⟩
  dsimp only
  refine wpS_bind (wpS_mono (wpS_forRange (I:=fun y c st'=>c9 st st'/\∃ o i j p q,c=(none,o,i,j,p,q)/\Mid κ a b o i j/\i+1<a.size/\j<b.size/\x+y<=i+j)
   (Q:=fun c st'=>c9 st st'/\((∃ r o,c=(some r,o)/\lI κ a b r)\/∃ o i j p q,c=(none,o,i,j,p,q)/\Mid κ a b o i j/\i+1<a.size/\j<b.size/\x+1<=i+j)) ?step1 ?fin1 ⟨ss,_,_,_,_,_,rfl,m,h3,h4,by omega⟩) ?post1)
  case fin1=>
   rintro c st' ⟨ss,o,i,j,p,q,rfl,m,h3,h4,h5⟩
   exact⟨ss,.inr ⟨o,i,j,p,q,rfl,m,h3,h4,by omega⟩⟩
  case step1=>
   rintro y c st' _ hy ⟨ss,o,i,j,p,q,rfl,m,h3,h4,h5⟩
   dsimp only
   obtain⟨pa,ea⟩:=bF (show i<a.size by omega)
   obtain⟨pb,eb⟩:=bF h4
   refine wpS_bind (bG eb (wpS_bind (bG ea (wpS_bind (yJ hO (ss.1.trans hk) (T.kb _ _ eb) (T.ka _ _ ea) ?_)))))
   cases hb:κ.blt (kk κ pb) (kk κ pa) with
   | true=>
    dsimp only
    rw[if_pos rfl]
    refine wpS_bind (bG eb ?_)
    have m':=m.pb eb T.sb (fun n q hn e=>Le.trans (Lt.le (κ:=κ) hb) (T.sa i n pa q hn ea e))
    by_cases h6:j+1=b.size
    ·rw[if_pos (bN h6)]
     refine wpS_pure ⟨ss,.inl ⟨_,_,rfl,?_⟩⟩
     rw[h6]at m' ⊢
     exact m'.finB T
    ·rw[if_neg (bT h6)]
     split
     ·exact wpS_pure ⟨ss,.inr ⟨_,_,_,_,_,rfl,m',h3,by omega,by omega⟩⟩
     ·exact wpS_pure ⟨ss,_,_,_,_,_,rfl,m',h3,by omega,by omega⟩
   | false=>
    dsimp only
    rw[if_neg (by decide)]
    refine wpS_bind (bG ea ?_)
    have m':=m.pa ea T.sa (fun n q hn e=>Le.trans (κ:=κ) (Dm hb) (T.sb j n pb q hn eb e))
    by_cases h6:i+1+1=a.size
    ·rw[if_pos (bN h6)]
     exact wpS_pure ⟨ss,.inl ⟨_,_,rfl,m'.las T h6⟩⟩
    ·rw[if_neg (bT h6)]
     split
     ·exact wpS_pure ⟨ss,.inr ⟨_,_,_,_,_,rfl,m',by omega,h4,by omega⟩⟩
     ·exact wpS_pure ⟨ss,_,_,_,_,_,rfl,m',by omega,h4,by omega⟩
  case post1=>
   rintro c st' ⟨ss,⟨r,o,rfl,gd⟩ | ⟨o,i,j,p,q,rfl,m,h3,h4,h5⟩⟩
   ·exact wpS_pure ⟨ss,r,_,rfl,gd⟩
   dsimp only
   refine wpS_bind (wpS_lift (wpAny_rule ⟨rfl,?_⟩))
   refine wpS_bind (wpS_mono (wpS_forRange (I:=fun y c st'=>c9 st st'/\∃ o i j g p q,c=(none,o,i,j,g,p,q)/\Mid κ a b o i j/\i+1<a.size/\j<b.size/\x+1<=i+j)
    (Q:=fun c st'=>c9 st st'/\((∃ r o,c=(some r,o)/\lI κ a b r)\/∃ o i j g p q,c=(none,o,i,j,g,p,q)/\Mid κ a b o i j/\i+1<a.size/\j<b.size/\x+1<=i+j)) ?step2 ?fin2 ⟨ss,_,_,_,_,_,_,rfl,m,h3,h4,by omega⟩) ?post2)
   case fin2=>
    rintro c st' ⟨ss,o,i,j,g,p,q,rfl,m,h3,h4,h5⟩
    exact⟨ss,.inr ⟨o,i,j,g,p,q,rfl,m,h3,h4,by omega⟩⟩
   case post2=>
    rintro c st' ⟨ss,⟨r,o,rfl,gd⟩ | ⟨o,i,j,g,p,q,rfl,m,h3,h4,h5⟩⟩
    ·exact wpS_pure ⟨ss,r,_,rfl,gd⟩
    dsimp only
    exact wpS_bind (qN fun st2 s2=>wpS_pure ⟨ss.trans s2,_,_,_,_,rfl,m,h3,h4,h5⟩)
   case step2=>
    rintro y c st' _ hy ⟨ss,o,i,j,g,p,q,rfl,m,h3,h4,h5⟩
    dsimp only
    revert g
    refine BH (fun g=>?_) (fun _=>rfl)
    all_goals
     refine wpS_bind (qN fun st2 s2=>?_)
     have ss2:=ss.trans s2
     obtain⟨pb,eb⟩:=bF h4
     refine wpS_bind (bG eb (wpS_bind (j6 hO (ss2.1.trans hk) (T.kb _ _ eb) T.ka (by omega) (by omega) (fun m n p q hmn _ e1 e2=>T.sa _ _ p q (by omega) e1 e2) fun k hk1 g1 g2=>?_)))
     dsimp only
     have g2':∀ (n:Nat) q,i+k<=n->a[n]? = some q->Le κ pb q:=fun n q hn e=>Lt.le (g2 (n - i) q (by omega) (by have:=dP e; omega) (by rw[show i+(n - i)=n by omega]; exact e))
     by_cases hk0:k > 0
     ·rw[if_pos hk0]
      have m1:=m.as T.sa (k:=i+k) (by omega) (by omega) (fun n p h1 h2 e n' q hn e'=>(g1 (n - i) p (by omega) (by rw[show i+(n - i)=n by omega]; exact e)).trans (T.sb _ _ pb q hn eb e'))
      by_cases h6:i+k+1=a.size
      ·rw[if_pos (bN h6)]
       exact wpS_pure ⟨ss2,.inl ⟨_,_,rfl,m1.las T h6⟩⟩
      rw[if_neg (bT h6)]
      by_cases h7:i+k=a.size
      ·rw[if_pos (bN h7)]
       refine wpS_pure ⟨ss2,.inl ⟨_,_,rfl,?_⟩⟩
       rw[h7]at m1 ⊢
       exact m1.finA T
      rw[if_neg (bT h7)]
      refine wpS_bind (bG eb ?_)
      have m2:=m1.pb eb T.sb g2'
      by_cases h8:j+1=b.size
      ·rw[if_pos (bN h8)]
       refine wpS_pure ⟨ss2,.inl ⟨_,_,rfl,?_⟩⟩
       rw[h8]at m2 ⊢
       exact m2.finB T
      rw[if_neg (bT h8)]
      obtain⟨pa,ea⟩:=bF (show i+k<a.size by omega)
      refine wpS_bind (bG ea (wpS_bind (gA hO (ss2.1.trans hk) (T.ka _ _ ea) T.kb (by omega) (by omega) (fun m n p q hmn _ e1 e2=>T.sb _ _ p q (by omega) e1 e2) fun k2 hk2 g3 g4=>?_)))
      dsimp only
      have g4':∀ (n:Nat) q,j+1+k2<=n->b[n]? = some q->Le κ pa q:=fun n q hn e=>g4 (n - (j+1)) q (by omega) (by have:=dP e; omega) (by rw[show j+1+(n - (j+1))=n by omega]; exact e)
      by_cases hk3:k2 > 0
      ·rw[if_pos hk3]
       have m3:=m2.bs T.sb (k:=j+1+k2) (by omega) (by omega) (fun n p h1 h2 e n' q hn e'=>(Lt.le (g3 (n - (j+1)) p (by omega) (by rw[show j+1+(n - (j+1))=n by omega]; exact e))).trans (T.sa _ _ pa q hn ea e'))
       by_cases h10:j+1+k2=b.size
       ·rw[if_pos (bN h10)]
        refine wpS_pure ⟨ss2,.inl ⟨_,_,rfl,?_⟩⟩
        rw[h10]at m3 ⊢
        exact m3.finB T
       rw[if_neg (bT h10)]
       refine wpS_bind (bG ea ?_)
       have m4:=m3.pa ea T.sa (fun n q hn e=>g4' n q hn e)
       by_cases h9:i+k+1+1=a.size
       ·rw[if_pos (bN h9)]
        exact wpS_pure ⟨ss2,.inl ⟨_,_,rfl,m4.las T h9⟩⟩
       ·rw[if_neg (bT h9)]
        split
        ·exact wpS_pure ⟨ss2,.inr ⟨_,_,_,_,_,_,rfl,m4,by omega,by omega,by omega⟩⟩
        ·exact wpS_pure ⟨ss2,_,_,_,_,_,_,rfl,m4,by omega,by omega,by omega⟩
      ·rw[if_neg hk3]
       refine wpS_bind (bG ea ?_)
       have m4:=m2.pa ea T.sa (fun n q hn e=>g4' n q (by omega) e)
       by_cases h9:i+k+1+1=a.size
       ·rw[if_pos (bN h9)]
        exact wpS_pure ⟨ss2,.inl ⟨_,_,rfl,m4.las T h9⟩⟩
       ·rw[if_neg (bT h9)]
        split
        ·exact wpS_pure ⟨ss2,.inr ⟨_,_,_,_,_,_,rfl,m4,by omega,by omega,by omega⟩⟩
        ·exact wpS_pure ⟨ss2,_,_,_,_,_,_,rfl,m4,by omega,by omega,by omega⟩
     ·rw[if_neg hk0]
      refine wpS_bind (bG eb ?_)
      have m2:=m.pb eb T.sb (fun n q hn e=>g2' n q (by omega) e)
      by_cases h8:j+1=b.size
      ·rw[if_pos (bN h8)]
       refine wpS_pure ⟨ss2,.inl ⟨_,_,rfl,?_⟩⟩
       rw[h8]at m2 ⊢
       exact m2.finB T
      rw[if_neg (bT h8)]
      obtain⟨pa,ea⟩:=bF (show i<a.size by omega)
      refine wpS_bind (bG ea (wpS_bind (gA hO (ss2.1.trans hk) (T.ka _ _ ea) T.kb (by omega) (by omega) (fun m n p q hmn _ e1 e2=>T.sb _ _ p q (by omega) e1 e2) fun k2 hk2 g3 g4=>?_)))
      dsimp only
      have g4':∀ (n:Nat) q,j+1+k2<=n->b[n]? = some q->Le κ pa q:=fun n q hn e=>g4 (n - (j+1)) q (by omega) (by have:=dP e; omega) (by rw[show j+1+(n - (j+1))=n by omega]; exact e)
      by_cases hk3:k2 > 0
      ·rw[if_pos hk3]
       have m3:=m2.bs T.sb (k:=j+1+k2) (by omega) (by omega) (fun n p h1 h2 e n' q hn e'=>(Lt.le (g3 (n - (j+1)) p (by omega) (by rw[show j+1+(n - (j+1))=n by omega]; exact e))).trans (T.sa _ _ pa q hn ea e'))
       by_cases h10:j+1+k2=b.size
       ·rw[if_pos (bN h10)]
        refine wpS_pure ⟨ss2,.inl ⟨_,_,rfl,?_⟩⟩
        rw[h10]at m3 ⊢
        exact m3.finB T
       rw[if_neg (bT h10)]
       refine wpS_bind (bG ea ?_)
       have m4:=m3.pa ea T.sa (fun n q hn e=>g4' n q hn e)
       by_cases h9:i+1+1=a.size
       ·rw[if_pos (bN h9)]
        exact wpS_pure ⟨ss2,.inl ⟨_,_,rfl,m4.las T h9⟩⟩
       ·rw[if_neg (bT h9)]
        split
        ·exact wpS_pure ⟨ss2,.inr ⟨_,_,_,_,_,_,rfl,m4,by omega,by omega,by omega⟩⟩
        ·exact wpS_pure ⟨ss2,_,_,_,_,_,_,rfl,m4,by omega,by omega,by omega⟩
      ·rw[if_neg hk3]
       refine wpS_bind (bG ea ?_)
       have m4:=m2.pa ea T.sa (fun n q hn e=>g4' n q (by omega) e)
       by_cases h9:i+1+1=a.size
       ·rw[if_pos (bN h9)]
        exact wpS_pure ⟨ss2,.inl ⟨_,_,rfl,m4.las T h9⟩⟩
       ·rw[if_neg (bT h9)]
        split
        ·exact wpS_pure ⟨ss2,.inr ⟨_,_,_,_,_,_,rfl,m4,by omega,by omega,by omega⟩⟩
        ·exact wpS_pure ⟨ss2,_,_,_,_,_,_,rfl,m4,by omega,by omega,by omega⟩
end
end TS
end
section
namespace TS
open PySem PyProof.Rows
noncomputable def sT:Array Keyed->Array Keyed->SM (Array Keyed):=sortPriv% PySem.Builtin.mergeHi
theorem Ax (a b:Array Keyed):sT a b=(do
  rule "list.sort.merge-hi"; let tt:=a.size+b.size
  let fin (o:Array Keyed) (i j:Nat):=a.extract 0 i++b.extract 0 j++o.reverse
  let fib (o:Array Keyed) (i j:Nat):=b.extract 0 j++a.extract 0 i++o.reverse
  let mut i:=a.size - 1; let mut j:=b.size; let mut o:Array Keyed:=#[<- elem' a i]
  if i == 0 then return fin o i j
  if j == 1 then return fib o i j
  let mut g:=gallopOf (<- get)
  for _ in [0:tt] do
   let mut p:=0; let mut q:=0
   for _ in [0:tt] do
    let some y <- lt' (<- elem' b (j - 1)) (<- elem' a (i - 1)) | return fin o i j
    if y then
     i:=i - 1; o:=o.push (<- elem' a i); p:=p+1; q:=0
     if i == 0 then return fin o i j
     if p ≥ g then break
    else
     j:=j - 1; o:=o.push (<- elem' b j); q:=q+1; p:=0
     if j == 1 then return fib o i j
     if q ≥ g then break
   rule "list.sort.gallop"; g:=g+1
   for _ in [0:tt] do
    if g > 1 then g:=g - 1
    B4 g
    let some t <- fT false (<- elem' b (j - 1)) a 0 i (i - 1) | return fin o i j
    let k:=i - t; p:=k
    if k > 0 then
     o:=o++(a.extract t i).reverse; i:=t
     if i == 0 then return fin o i j
    j:=j - 1; o:=o.push (<- elem' b j)
    if j == 1 then return fib o i j
    let some t <- fT true (<- elem' a (i - 1)) b 0 j (j - 1) | return fin o i j
    let k:=j - t; q:=k
    if k > 0 then
     o:=o++(b.extract t j).reverse; j:=t
     if j == 1 then return fib o i j
     if j == 0 then return fin o i j
    i:=i - 1; o:=o.push (<- elem' a i)
    if i == 0 then return fin o i j
    if p<7 && q<7 then break
   g:=g+1; B4 g
  unsupported "internal:list.sort.merge-bound"):=rfl
structure MidR (κ : KeyKind) (a b o:Array Keyed) (i j:Nat):Prop where
 la:i<=a.size
 lb:j<=b.size
 perm:o.toList.Perm (a.toList.drop i++b.toList.drop j)
 so:o.toList.Pairwise (fun p q=>Le κ q p)
 ua:∀ p∈o.toList,∀ (n:Nat) q,n<i->a[n]? = some q->Le κ q p
 ub:∀ p∈o.toList,∀ (n:Nat) q,n<j->b[n]? = some q->Le κ q p
theorem lX {xs:Array Keyed} {i:Nat} {p:Keyed} (e:xs[i]? = some p):xs.toList.drop i=p::xs.toList.drop (i+1):=by
 have h:=dP e
 rw[List.drop_eq_getElem_cons (by simpa using h)]
 rw[getElem?_pos xs i h]at e
 rw[<- Option.some.inj e]
 rfl
theorem zN {xs:Array Keyed} {k i:Nat} {p:Keyed} (h:k<i) (e:xs[k]? = some p):(xs.extract k i).reverse=((xs.extract (k+1) i).reverse).push p:=by
 have hk:=dP e
 apply Array.toList_inj.mp
 rw[Array.toList_reverse,Array.toList_push,Array.toList_reverse,Array.toList_extract,Array.toList_extract,List.extract_eq_take_drop,List.extract_eq_take_drop,lX e]
 have:i - k=(i - (k+1))+1:=by omega
 rw[this,List.take_succ_cons,List.reverse_cons]
section
variable {κ : KeyKind} {a b o:Array Keyed} {i j:Nat}
theorem MidR.pa (m:MidR κ a b o (i+1) j) {p:Keyed} (e:a[i]? = some p) (sa:∀ (m n:Nat) p q,m<=n->a[m]? = some p->a[n]? = some q->Le κ p q) (h:∀ (n:Nat) q,n<j->b[n]? = some q->Le κ q p):MidR κ a b (o.push p) i j where
 la:=by have:=m.la; omega
 lb:=m.lb
 perm:=by
  rw[Array.toList_push,lX e]
  refine List.perm_append_comm.trans ?_
  exact(m.perm.cons p)
 so:=by
  rw[Array.toList_push,List.pairwise_append]
  exact⟨m.so,List.pairwise_singleton _ _,fun x hx y hy=>by rw[List.mem_singleton.mp hy]; exact m.ua x hx i p (Nat.lt_succ_self _) e⟩
 ua:=fun x hx n q hn eq=>by
  rw[Array.toList_push,List.mem_append]at hx
  rcases hx with hx | hx
  ·exact m.ua x hx n q (by omega) eq
  ·rw[List.mem_singleton.mp hx]
   exact sa n i q p (by omega) eq e
 ub:=fun x hx n q hn eq=>by
  rw[Array.toList_push,List.mem_append]at hx
  rcases hx with hx | hx
  ·exact m.ub x hx n q hn eq
  ·rw[List.mem_singleton.mp hx]
   exact h n q hn eq
theorem MidR.pb (m:MidR κ a b o i (j+1)) {p:Keyed} (e:b[j]? = some p) (sb:∀ (m n:Nat) p q,m<=n->b[m]? = some p->b[n]? = some q->Le κ p q) (h:∀ (n:Nat) q,n<i->a[n]? = some q->Le κ q p):MidR κ a b (o.push p) i j where
 la:=m.la
 lb:=by have:=m.lb; omega
 perm:=by
  rw[Array.toList_push,lX e]
  refine List.perm_append_comm.trans ((m.perm.cons p).trans ?_)
  exact List.perm_middle.symm
 so:=by
  rw[Array.toList_push,List.pairwise_append]
  exact⟨m.so,List.pairwise_singleton _ _,fun x hx y hy=>by rw[List.mem_singleton.mp hy]; exact m.ub x hx j p (Nat.lt_succ_self _) e⟩
 ua:=fun x hx n q hn eq=>by
  rw[Array.toList_push,List.mem_append]at hx
  rcases hx with hx | hx
  ·exact m.ua x hx n q hn eq
  ·rw[List.mem_singleton.mp hx]
   exact h n q hn eq
 ub:=fun x hx n q hn eq=>by
  rw[Array.toList_push,List.mem_append]at hx
  rcases hx with hx | hx
  ·exact m.ub x hx n q (by omega) eq
  ·rw[List.mem_singleton.mp hx]
   exact sb n j q p (by omega) eq e
theorem MidR.as (sa:∀ (m n:Nat) p q,m<=n->a[m]? = some p->a[n]? = some q->Le κ p q):∀ {d k:Nat},k+d=i->MidR κ a b o i j->(∀ (n:Nat) p,k<=n->n<i->a[n]? = some p->∀ (n':Nat) q,n'<j->b[n']? = some q->Le κ q p)->MidR κ a b (o++(a.extract k i).reverse) k j:=by
 intro d
 induction d with
 | zero=>
  intro k hk m _
  have hk:k=i:=by omega
  subst hk
  have:a.extract k k = #[]:=by simp; omega
  rw[this,Array.reverse_empty,Array.append_empty]
  exact m
 | succ d ih=>
  intro k hk m h
  have hl:=m.la
  obtain⟨p,e⟩:=bF (show k<a.size by omega)
  rw[zN (by omega) e,<- Array.push_append]
  exact(ih (by omega) m fun n p h1 h2=>h n p (by omega) h2).pa e sa (h k p (Nat.le_refl _) (by omega) e)
theorem MidR.bs (sb:∀ (m n:Nat) p q,m<=n->b[m]? = some p->b[n]? = some q->Le κ p q):∀ {d k:Nat},k+d=j->MidR κ a b o i j->(∀ (n:Nat) p,k<=n->n<j->b[n]? = some p->∀ (n':Nat) q,n'<i->a[n']? = some q->Le κ q p)->MidR κ a b (o++(b.extract k j).reverse) i k:=by
 intro d
 induction d with
 | zero=>
  intro k hk m _
  have hk:k=j:=by omega
  subst hk
  have:b.extract k k = #[]:=by simp; omega
  rw[this,Array.reverse_empty,Array.append_empty]
  exact m
 | succ d ih=>
  intro k hk m h
  have hl:=m.lb
  obtain⟨p,e⟩:=bF (show k<b.size by omega)
  rw[zN (by omega) e,<- Array.push_append]
  exact(ih (by omega) m fun n p h1 h2=>h n p (by omega) h2).pb e sb (h k p (Nat.le_refl _) (by omega) e)
theorem MidR.good (m:MidR κ a b o 0 0):lI κ a b o.reverse:=by
 refine⟨?_,?_⟩
 ·rw[Array.toList_reverse]
  exact(List.reverse_perm _).trans m.perm
 ·rw[Array.toList_reverse,List.pairwise_reverse]
  exact m.so
theorem xB {x y z:Array Keyed}:(x++y.reverse++z.reverse).reverse=z++y++x.reverse:=by
 apply Array.toList_inj.mp
 simp
theorem Bc {xs:Array Keyed}:xs.extract 0 0 = #[]:=by simp
theorem MidR.finA (T:Two κ a b) (m:MidR κ a b o 0 j):lI κ a b (a.extract 0 0++b.extract 0 j++o.reverse):=by
 have h1:=m.as T.sa (k:=0) (d:=0) rfl (fun n p h1 h2=>by omega)
 have h2:=(h1.bs T.sb (k:=0) (d:=j) (by omega) (fun n p h1 h2 e n' q hn=>by omega)).good
 rw[xB]at h2
 rw[Bc]at h2 ⊢
 simpa using h2
theorem MidR.finB (T:Two κ a b) (m:MidR κ a b o i 0):lI κ a b (a.extract 0 i++b.extract 0 0++o.reverse):=by
 have h1:=m.as T.sa (k:=0) (d:=i) (by omega) (fun n p h1 h2 e n' q hn=>by omega)
 have h2:=(h1.bs T.sb (k:=0) (d:=0) rfl (fun n p h1 h2=>by omega)).good
 rw[xB]at h2
 rw[Bc]at h2 ⊢
 simpa using h2
theorem MidR.fib (T:Two κ a b) (m:MidR κ a b o i 1):lI κ a b (b.extract 0 1++a.extract 0 i++o.reverse):=by
 have h1:=m.as T.sa (k:=0) (d:=i) (by omega) (fun n p h1 h2 e n' q hn e'=>by
  have hz:n'=0:=by omega
  rw[hz]at e'
  obtain⟨z,ez⟩:=bF T.a0
  exact(T.fst z q ez e').trans (T.sa 0 n z p (by omega) ez e))
 have h2:=(h1.bs T.sb (k:=0) (d:=1) rfl (fun n p h1 h2 e n' q hn=>by omega)).good
 rw[xB]at h2
 exact h2
end
section
variable {prog:Program} {w:World} {A:Around} {E:Value->Shared->Prop} {s:Shared} {κ : KeyKind} {a b:Array Keyed}
theorem zS {n:Nat} (h:0<n):∃ m,n=m+1:=⟨n - 1,by omega⟩
set_option maxHeartbeats 2000000 in
theorem Aw (hO:κ.OneLt) (T:Two κ a b) {st:SortSt} (hk:kindOf st=oneType') {Q:Array Keyed->SortSt->Prop} (h:∀ r st',c9 st st'->lI κ a b r->Q r st'):wpS (model prog w) A E s (sT a b) Q st:=by
 rw[Ax]
 refine wpS_bind (wpS_lift (wpAny_rule ⟨rfl,?_⟩))
 dsimp only
 have a1:=T.a0
 have b1:=T.b0
 obtain⟨pl,el⟩:=bF (show a.size - 1<a.size by omega)
 obtain⟨pm,em⟩:=bF (show b.size - 1<b.size by omega)
 refine wpS_bind (bG el ?_)
 have m0:MidR κ a b #[pl] (a.size - 1) b.size:=by
  refine⟨by omega,Nat.le_refl _,?_,List.pairwise_singleton _ _,fun p hp n q hn e=>?_,fun p hp n q hn e=>?_⟩
  ·rw[lX el,List.drop_of_length_le (by simp; omega),List.drop_of_length_le (by simp)]
   exact List.Perm.refl _
  ·have hp:p=pl:=by simpa using hp
   rw[hp]
   exact T.sa n (a.size - 1) q pl (by omega) e el
  ·have hp:p=pl:=by simpa using hp
   rw[hp]
   exact(T.sb n (b.size - 1) q pm (by omega) e em).trans (T.lst pl pm el em)
 by_cases h1:a.size - 1=0
 ·rw[if_pos (bN h1)]
  refine wpS_pure (h _ _ (c9.refl _) ?_)
  rw[h1]at m0 ⊢
  exact m0.finA T
 rw[if_neg (bT h1)]
 by_cases h2:b.size=1
 ·rw[if_pos (bN h2)]
  refine wpS_pure (h _ _ (c9.refl _) ?_)
  rw[h2]at m0 ⊢
  exact m0.fib T
 rw[if_neg (bT h2)]
 refine wpS_bind (wpS_get ?_)
 refine wpS_bind (wpS_mono (wpS_forRange (I:=fun x c st'=>c9 st st'/\∃ i j o g,c=(none,i,j,o,g)/\MidR κ a b o i j/\0<i/\1<j/\x<=(a.size - i)+(b.size - j))
  (Q:=fun c st'=>c9 st st'/\∃ r o,c=(some r,o)/\lI κ a b r) ?step ?fin ⟨c9.refl _,_,_,_,_,rfl,m0,by omega,by omega,by omega⟩) ?post)
 case fin=>
  rintro c st' ⟨_,i,j,o,g,_,m,h3,h4,h5⟩
  have:=m.la
  have:=m.lb
  omega
 case post=>
  rintro c st' ⟨ss,r,o,rfl,g⟩
  exact wpS_pure (h r st' ss g)
 case step=>
  rintro x c st' _ hx ⟨ss,i,j,o,g,rfl,m,h3,h4,h5⟩
  dsimp only
  refine wpS_bind (wpS_mono (wpS_forRange (I:=fun y c st'=>c9 st st'/\∃ i j o p q,c=(none,i,j,o,p,q)/\MidR κ a b o i j/\0<i/\1<j/\x+y<=(a.size - i)+(b.size - j))
   (Q:=fun c st'=>c9 st st'/\((∃ r o,c=(some r,o)/\lI κ a b r)\/∃ i j o p q,c=(none,i,j,o,p,q)/\MidR κ a b o i j/\0<i/\1<j/\x+1<=(a.size - i)+(b.size - j))) ?step1 ?fin1 ⟨ss,_,_,_,_,_,rfl,m,h3,h4,by omega⟩) ?post1)
  case fin1=>
   rintro c st' ⟨ss,i,j,o,p,q,rfl,m,h3,h4,h5⟩
   exact⟨ss,.inr ⟨i,j,o,p,q,rfl,m,h3,h4,by omega⟩⟩
  case step1=>
   rintro y c st' _ hy ⟨ss,i,j,o,p,q,rfl,m,h3,h4,h5⟩
   dsimp only
   have hla:=m.la
   have hlb:=m.lb
   obtain⟨i,rfl⟩:=zS h3
   obtain⟨j,rfl⟩:=zS (show 0<j by omega)
   simp only[Nat.add_sub_cancel]
   obtain⟨pa,ea⟩:=bF (show i<a.size by omega)
   obtain⟨pb,eb⟩:=bF (show j<b.size by omega)
   refine wpS_bind (bG eb (wpS_bind (bG ea (wpS_bind (yJ hO (ss.1.trans hk) (T.kb _ _ eb) (T.ka _ _ ea) ?_)))))
   cases hb:κ.blt (kk κ pb) (kk κ pa) with
   | true=>
    dsimp only
    rw[if_pos rfl]
    refine wpS_bind (bG ea ?_)
    have m':=m.pa ea T.sa (fun n q hn e=>Le.trans (T.sb n j q pb (by omega) e eb) (Lt.le (κ:=κ) hb))
    by_cases h6:i=0
    ·rw[if_pos (bN h6)]
     refine wpS_pure ⟨ss,.inl ⟨_,_,rfl,?_⟩⟩
     rw[h6]at m' ⊢
     exact m'.finA T
    ·rw[if_neg (bT h6)]
     split
     ·exact wpS_pure ⟨ss,.inr ⟨_,_,_,_,_,rfl,m',by omega,h4,by omega⟩⟩
     ·exact wpS_pure ⟨ss,_,_,_,_,_,rfl,m',by omega,h4,by omega⟩
   | false=>
    dsimp only
    rw[if_neg (by decide)]
    refine wpS_bind (bG eb ?_)
    have m':=m.pb eb T.sb (fun n q hn e=>Le.trans (T.sa n i q pa (by omega) e ea) (Dm (κ:=κ) hb))
    by_cases h6:j=1
    ·rw[if_pos (bN h6)]
     refine wpS_pure ⟨ss,.inl ⟨_,_,rfl,?_⟩⟩
     rw[h6]at m' ⊢
     exact m'.fib T
    ·rw[if_neg (bT h6)]
     split
     ·exact wpS_pure ⟨ss,.inr ⟨_,_,_,_,_,rfl,m',by omega,by omega,by omega⟩⟩
     ·exact wpS_pure ⟨ss,_,_,_,_,_,rfl,m',by omega,by omega,by omega⟩
  case post1=>
   rintro c st' ⟨ss,⟨r,o,rfl,gd⟩ | ⟨i,j,o,p,q,rfl,m,h3,h4,h5⟩⟩
   ·exact wpS_pure ⟨ss,r,_,rfl,gd⟩
   dsimp only
   refine wpS_bind (wpS_lift (wpAny_rule ⟨rfl,?_⟩))
   refine wpS_bind (wpS_mono (wpS_forRange (I:=fun y c st'=>c9 st st'/\∃ i j o g p q,c=(none,i,j,o,g,p,q)/\MidR κ a b o i j/\0<i/\1<j/\x+1<=(a.size - i)+(b.size - j))
    (Q:=fun c st'=>c9 st st'/\((∃ r o,c=(some r,o)/\lI κ a b r)\/∃ i j o g p q,c=(none,i,j,o,g,p,q)/\MidR κ a b o i j/\0<i/\1<j/\x+1<=(a.size - i)+(b.size - j))) ?step2 ?fin2 ⟨ss,_,_,_,_,_,_,rfl,m,h3,h4,by omega⟩) ?post2)
   case fin2=>
    rintro c st' ⟨ss,i,j,o,g,p,q,rfl,m,h3,h4,h5⟩
    exact⟨ss,.inr ⟨i,j,o,g,p,q,rfl,m,h3,h4,by omega⟩⟩
   case post2=>
    rintro c st' ⟨ss,⟨r,o,rfl,gd⟩ | ⟨i,j,o,g,p,q,rfl,m,h3,h4,h5⟩⟩
    ·exact wpS_pure ⟨ss,r,_,rfl,gd⟩
    dsimp only
    exact wpS_bind (qN fun st2 s2=>wpS_pure ⟨ss.trans s2,_,_,_,_,rfl,m,h3,h4,h5⟩)
   case step2=>
    rintro y c st' _ hy ⟨ss,i,j,o,g,p,q,rfl,m,h3,h4,h5⟩
    dsimp only
    have hla:=m.la
    have hlb:=m.lb
    revert g
    refine BH (fun g=>?_) (fun _=>rfl)
    all_goals
     refine wpS_bind (qN fun st2 s2=>?_)
     have ss2:=ss.trans s2
     obtain⟨j,rfl⟩:=zS (show 0<j by omega)
     simp only[Nat.add_sub_cancel]
     obtain⟨pb,eb⟩:=bF (show j<b.size by omega)
     refine wpS_bind (bG eb (wpS_bind (j6 hO (ss2.1.trans hk) (T.kb _ _ eb) T.ka (by omega) (by omega) (fun m n p q hmn _ e1 e2=>T.sa _ _ p q (by omega) e1 e2) fun t ht g1 g2=>?_)))
     dsimp only
     have g1':∀ (n:Nat) q,n<t->a[n]? = some q->Le κ q pb:=fun n q hn e=>g1 n q hn (by rw[Nat.zero_add]; exact e)
     by_cases hk0:i - t > 0
     ·rw[if_pos hk0]
      have m1:=m.as T.sa (k:=t) (d:=i - t) (by omega) (fun n p h1 h2 e n' q hn e'=>(T.sb n' j q pb (by omega) e' eb).trans (Lt.le (g2 n p h1 h2 (by rw[Nat.zero_add]; exact e))))
      by_cases h7:t=0
      ·rw[if_pos (bN h7)]
       refine wpS_pure ⟨ss2,.inl ⟨_,_,rfl,?_⟩⟩
       rw[h7]at m1 ⊢
       exact m1.finA T
      rw[if_neg (bT h7)]
      obtain⟨i1,rfl⟩:=zS (show 0<t by omega)
      simp only[Nat.add_sub_cancel]
      refine wpS_bind (bG eb ?_)
      have m2:=m1.pb eb T.sb g1'
      by_cases h8:j=1
      ·rw[if_pos (bN h8)]
       refine wpS_pure ⟨ss2,.inl ⟨_,_,rfl,?_⟩⟩
       rw[h8]at m2 ⊢
       exact m2.fib T
      rw[if_neg (bT h8)]
      obtain⟨pa,ea⟩:=bF (show i1<a.size by omega)
      refine wpS_bind (bG ea (wpS_bind (gA hO (ss2.1.trans hk) (T.ka _ _ ea) T.kb (by omega) (by omega) (fun m n p q hmn _ e1 e2=>T.sb _ _ p q (by omega) e1 e2) fun t2 ht2 g3 g4=>?_)))
      dsimp only
      have g3':∀ (n:Nat) q,n<t2->b[n]? = some q->Le κ q pa:=fun n q hn e=>Lt.le (g3 n q hn (by rw[Nat.zero_add]; exact e))
      by_cases hk3:j - t2 > 0
      ·rw[if_pos hk3]
       have m3:=m2.bs T.sb (k:=t2) (d:=j - t2) (by omega) (fun n p h1 h2 e n' q hn e'=>(T.sa n' i1 q pa (by omega) e' ea).trans (g4 n p h1 h2 (by rw[Nat.zero_add]; exact e)))
       by_cases h10:t2=1
       ·rw[if_pos (bN h10)]
        refine wpS_pure ⟨ss2,.inl ⟨_,_,rfl,?_⟩⟩
        rw[h10]at m3 ⊢
        exact m3.fib T
       rw[if_neg (bT h10)]
       by_cases h11:t2=0
       ·rw[if_pos (bN h11)]
        refine wpS_pure ⟨ss2,.inl ⟨_,_,rfl,?_⟩⟩
        rw[h11]at m3 ⊢
        exact m3.finB T
       rw[if_neg (bT h11)]
       refine wpS_bind (bG ea ?_)
       have m4:=m3.pa ea T.sa g3'
       by_cases h9:i1=0
       ·rw[if_pos (bN h9)]
        refine wpS_pure ⟨ss2,.inl ⟨_,_,rfl,?_⟩⟩
        rw[h9]at m4 ⊢
        exact m4.finA T
       ·rw[if_neg (bT h9)]
        split
        ·exact wpS_pure ⟨ss2,.inr ⟨_,_,_,_,_,_,rfl,m4,by omega,by omega,by omega⟩⟩
        ·exact wpS_pure ⟨ss2,_,_,_,_,_,_,rfl,m4,by omega,by omega,by omega⟩
      ·rw[if_neg hk3]
       have et:t2=j:=by omega
       rw[et]at g3'
       refine wpS_bind (bG ea ?_)
       have m4:=m2.pa ea T.sa g3'
       by_cases h9:i1=0
       ·rw[if_pos (bN h9)]
        refine wpS_pure ⟨ss2,.inl ⟨_,_,rfl,?_⟩⟩
        rw[h9]at m4 ⊢
        exact m4.finA T
       ·rw[if_neg (bT h9)]
        split
        ·exact wpS_pure ⟨ss2,.inr ⟨_,_,_,_,_,_,rfl,m4,by omega,by omega,by omega⟩⟩
        ·exact wpS_pure ⟨ss2,_,_,_,_,_,_,rfl,m4,by omega,by omega,by omega⟩
     ·rw[if_neg hk0]
      have et:t=i:=by omega
      rw[et]at g1'
      obtain⟨i1,rfl⟩:=zS h3
      simp only[Nat.add_sub_cancel]
      refine wpS_bind (bG eb ?_)
      have m2:=m.pb eb T.sb g1'
      by_cases h8:j=1
      ·rw[if_pos (bN h8)]
       refine wpS_pure ⟨ss2,.inl ⟨_,_,rfl,?_⟩⟩
       rw[h8]at m2 ⊢
       exact m2.fib T
      rw[if_neg (bT h8)]
      obtain⟨pa,ea⟩:=bF (show i1<a.size by omega)
      refine wpS_bind (bG ea (wpS_bind (gA hO (ss2.1.trans hk) (T.ka _ _ ea) T.kb (by omega) (by omega) (fun m n p q hmn _ e1 e2=>T.sb _ _ p q (by omega) e1 e2) fun t2 ht2 g3 g4=>?_)))
      dsimp only
      have g3':∀ (n:Nat) q,n<t2->b[n]? = some q->Le κ q pa:=fun n q hn e=>Lt.le (g3 n q hn (by rw[Nat.zero_add]; exact e))
      by_cases hk3:j - t2 > 0
      ·rw[if_pos hk3]
       have m3:=m2.bs T.sb (k:=t2) (d:=j - t2) (by omega) (fun n p h1 h2 e n' q hn e'=>(T.sa n' i1 q pa (by omega) e' ea).trans (g4 n p h1 h2 (by rw[Nat.zero_add]; exact e)))
       by_cases h10:t2=1
       ·rw[if_pos (bN h10)]
        refine wpS_pure ⟨ss2,.inl ⟨_,_,rfl,?_⟩⟩
        rw[h10]at m3 ⊢
        exact m3.fib T
       rw[if_neg (bT h10)]
       by_cases h11:t2=0
       ·rw[if_pos (bN h11)]
        refine wpS_pure ⟨ss2,.inl ⟨_,_,rfl,?_⟩⟩
        rw[h11]at m3 ⊢
        exact m3.finB T
       rw[if_neg (bT h11)]
       refine wpS_bind (bG ea ?_)
       have m4:=m3.pa ea T.sa g3'
       by_cases h9:i1=0
       ·rw[if_pos (bN h9)]
        refine wpS_pure ⟨ss2,.inl ⟨_,_,rfl,?_⟩⟩
        rw[h9]at m4 ⊢
        exact m4.finA T
       ·rw[if_neg (bT h9)]
        split
        ·exact wpS_pure ⟨ss2,.inr ⟨_,_,_,_,_,_,rfl,m4,by omega,by omega,by omega⟩⟩
        ·exact wpS_pure ⟨ss2,_,_,_,_,_,_,rfl,m4,by omega,by omega,by omega⟩
      ·rw[if_neg hk3]
       have et:t2=j:=by omega
       rw[et]at g3'
       refine wpS_bind (bG ea ?_)
       have m4:=m2.pa ea T.sa g3'
       by_cases h9:i1=0
       ·rw[if_pos (bN h9)]
        refine wpS_pure ⟨ss2,.inl ⟨_,_,rfl,?_⟩⟩
        rw[h9]at m4 ⊢
        exact m4.finA T
       ·rw[if_neg (bT h9)]
        split
        ·exact wpS_pure ⟨ss2,.inr ⟨_,_,_,_,_,_,rfl,m4,by omega,by omega,by omega⟩⟩
        ·exact wpS_pure ⟨ss2,_,_,_,_,_,_,rfl,m4,by omega,by omega,by omega⟩
end
end TS
end
section
namespace TS
open PySem PyProof.Rows
theorem Az (i:Nat):mergeAt' i=(do
  let z <- get
  let (some (u,n,pw),some (v,m,_)):=((pendingOf z)[i]?,(pendingOf z)[i+1]?) | unsupported "internal:list.sort.pending"
  set (setPending z (((pendingOf z).setIfInBounds i (u,n+m,pw)).eraseIdxIfInBounds (i+1)))
  let some k <- fT false (<- elem' (arrOf z) v) (arrOf z) u n 0 | return false
  let (u,n):=(u+k,n - k)
  if n == 0 then return true
  let some m <- fT true (<- elem' (arrOf z) (u+n - 1)) (arrOf z) v m (m - 1) | return false
  if m == 0 then return true
  let x:=(arrOf z).extract u v; let y:=(arrOf z).extract v (v+m)
  let r <- if n<=m then sS x y else sT x y
  modify fun z=>setArr z (r.toList.zipIdx.foldl (fun a (p,j)=>a.setIfInBounds (u+j) p) (arrOf z))
  return (failedOf (<- get)).isNone):=rfl
noncomputable def SR (κ : KeyKind) (xs:Array Keyed) (lo hi:Nat):Prop:=∀ (i j:Nat) p q,lo<=i->i<=j->j<hi->xs[i]? = some p->xs[j]? = some q->Le κ p q
noncomputable def put (xs:Array Keyed) (u:Nat) (l:List Keyed) (k:Nat):Array Keyed:=(l.zipIdx k).foldl (fun a (p,j)=>a.setIfInBounds (u+j) p) xs
theorem sE (u:Nat):∀ (l:List Keyed) (k:Nat) (xs:Array Keyed),u+k+l.length<=xs.size->(put xs u l k).toList=xs.toList.take (u+k)++l++xs.toList.drop (u+k+l.length)
 | [],k,xs,h=>by
  show xs.toList=_
  rw[List.append_nil,List.length_nil,Nat.add_zero,List.take_append_drop]
 | p::l,k,xs,h=>by
  rw[List.length_cons]at h
  show (put (xs.setIfInBounds (u+k) p) u l (k+1)).toList=_
  rw[sE u l (k+1) _ (by rw[Array.size_setIfInBounds]; omega)]
  have hk:u+k<xs.toList.length:=by rw[Array.length_toList]; omega
  rw[Array.toList_setIfInBounds,List.drop_set_of_lt (by omega),show u+(k+1)=(u+k)+1 by omega]
  have e:(xs.toList.set (u+k) p).take (u+k+1)=xs.toList.take (u+k)++[p]:=by
   rw[List.take_add_one,List.take_set_of_le (Nat.le_refl _),List.getElem?_set_self hk]
   rfl
  rw[e,List.append_assoc,List.append_assoc,List.append_assoc]
  show _++(p::l++xs.toList.drop (u+k+1+l.length))=_++(p::l++xs.toList.drop (u+k+(l.length+1)))
  rw[show u+k+1+l.length=u+k+(l.length+1) by omega]
theorem DR {xs:Array Keyed} {u:Nat} {l:List Keyed} (h:u+l.length<=xs.size) (i:Nat):(put xs u l 0)[i]? = if i<u then xs[i]? else if i<u+l.length then l[i - u]? else xs[i]?:=by
 rw[<- Array.getElem?_toList,sE u l 0 xs (by omega),Nat.add_zero]
 have lt:(xs.toList.take u).length=u:=by rw[List.length_take,Array.length_toList]; omega
 by_cases h1:i<u
 ·rw[if_pos h1,List.append_assoc,List.getElem?_append_left (by omega),List.getElem?_take_of_lt h1,Array.getElem?_toList]
 ·rw[if_neg h1]
  by_cases h2:i<u+l.length
  ·rw[if_pos h2,List.append_assoc,List.getElem?_append_right (by omega),lt,List.getElem?_append_left (by omega)]
  ·rw[if_neg h2,List.getElem?_append_right (by rw[List.length_append]; omega),List.length_append,lt,List.getElem?_drop,show u+l.length+(i - (u+l.length))=i by omega,Array.getElem?_toList]
theorem x6 {xs:Array Keyed} {u v:Nat} (hv:v<=xs.size) (i:Nat):(xs.extract u v)[i]? = if u+i<v then xs[u+i]? else none:=by
 rw[Array.getElem?_extract]
 by_cases h:u+i<v
 ·rw[if_pos h,if_pos (by omega)]
 ·rw[if_neg h,if_neg (by omega)]
theorem DP {xs:Array Keyed} {u v m:Nat} {r:Array Keyed} (huv:u<=v) (hm:v+m<=xs.size) (hr:r.toList.Perm ((xs.extract u v).toList++(xs.extract v (v+m)).toList)):(put xs u r.toList 0).Perm xs/\r.toList.length=v - u+m:=by
 have hl:r.toList.length=v - u+m:=by
  have:=hr.length_eq
  rw[List.length_append,Array.length_toList,Array.length_toList,Array.length_toList,Array.size_extract,Array.size_extract]at this
  rw[Array.length_toList]
  omega
 refine⟨?_,hl⟩
 rw[Array.perm_iff_toList_perm,sE u r.toList 0 xs (by omega),Nat.add_zero,hl]
 rw[Array.toList_extract,Array.toList_extract,List.extract_eq_take_drop,List.extract_eq_take_drop]at hr
 have e:xs.toList=xs.toList.take u++((xs.toList.drop u).take (v - u)++(xs.toList.drop v).take (v+m - v))++xs.toList.drop (u+(v - u+m)):=by
  have e1:(xs.toList.drop u).take (v - u)++(xs.toList.drop v).take (v+m - v)=(xs.toList.drop u).take (v - u+m):=by
   rw[List.take_add,List.drop_drop,show u+(v - u)=v by omega,show v+m - v=m by omega]
  rw[e1,List.append_assoc]
  have e2:(xs.toList.drop u).take (v - u+m)++xs.toList.drop (u+(v - u+m))=xs.toList.drop u:=by
   rw[<- List.drop_drop,List.take_append_drop]
  rw[e2,List.take_append_drop]
 exact((List.Perm.append_left _ hr).append_right _).trans (List.Perm.of_eq e.symm)
structure SB (κ : KeyKind) (a₀ : Array Keyed) (st:SortSt):Prop where
 kind:kindOf st=oneType'
 failed:failedOf st=none
 perm:(arrOf st).Perm a₀
theorem SB.size {κ : KeyKind} {a₀ : Array Keyed} {st:SortSt} (h:SB κ a₀ st):(arrOf st).size=a₀.size:=h.perm.size_eq
theorem SB.keys {κ : KeyKind} {a₀ : Array Keyed} {st:SortSt} (h:SB κ a₀ st) (h0:KeysOf κ a₀):AllK κ (arrOf st):=fun i p e=>by
 refine h0 p ((Array.perm_iff_toList_perm.mp h.perm).mem_iff.mp ?_)
 rw[<- Array.getElem?_toList]at e
 exact List.mem_of_getElem? e
section
variable {prog:Program} {w:World} {A:Around} {E:Value->Shared->Prop} {s:Shared} {κ : KeyKind} {a₀ : Array Keyed}
theorem El {σ : Type} {x:σ} {Q:PUnit->σ->Prop} {st:σ} {M:Model} (h:Q ⟨⟩ x):wpS M A E s (set x:StateT σ Sem PUnit) Q st:=by
 unfold wpS
 rw[StateT.run_set]
 exact wpAny_pure ⟨rfl,h⟩
set_option maxHeartbeats 1000000 in
theorem Ay (hO:κ.OneLt) (h0:KeysOf κ a₀) {st:SortSt} (B:SB κ a₀ st) {i u n m pw pw2:Nat} (e1:(pendingOf st)[i]? = some (u,n,pw)) (e2:(pendingOf st)[i+1]? = some (u+n,m,pw2)) (n0:0<n) (m0:0<m) (hsz:u+n+m<=a₀.size)
  (s1:SR κ (arrOf st) u (u+n)) (s2:SR κ (arrOf st) (u+n) (u+n+m)) {Q:Bool->SortSt->Prop}
  (h:∀ st',SB κ a₀ st'->pendingOf st'=((pendingOf st).setIfInBounds i (u,n+m,pw)).eraseIdxIfInBounds (i+1)->SR κ (arrOf st') u (u+n+m)->(∀ j,j<u\/u+n+m<=j->(arrOf st')[j]? = (arrOf st)[j]?)->Q true st') :
  wpS (model prog w) A E s (mergeAt' i) Q st:=by
 rw[Az]
 refine wpS_bind (wpS_get ?_)
 rw[e1,e2]
 dsimp only
 refine wpS_bind (El ?_)
 generalize hst1:setPending st (((pendingOf st).setIfInBounds i (u,n+m,pw)).eraseIdxIfInBounds (i+1))=st1
 have k1:kindOf st1=oneType':=by rw[<- hst1]; exact B.kind
 have f1:failedOf st1=none:=by rw[<- hst1]; exact B.failed
 have ar1:arrOf st1=arrOf st:=by rw[<- hst1]
 have pe1:pendingOf st1=((pendingOf st).setIfInBounds i (u,n+m,pw)).eraseIdxIfInBounds (i+1):=by rw[<- hst1]
 have B1:SB κ a₀ st1:=⟨k1,f1,by rw[ar1]; exact B.perm⟩
 have AK:=B.keys h0
 have sz:=B.size
 generalize arrOf st=xs at ar1 AK sz s1 s2 h ⊢
 obtain⟨b1,eb1⟩:=bF (show u+n<xs.size by omega)
 refine wpS_bind (bG eb1 (wpS_bind (j6 hO k1 (AK _ _ eb1) AK (by omega) n0 (fun i j p q hij hj e1 e2=>s1 _ _ p q (by omega) (by omega) (by omega) e1 e2) fun k hk g1 g2=>?_)))
 dsimp only
 have le1:∀ (j:Nat) p,u<=j->j<u+k->xs[j]? = some p->∀ (j':Nat) q,j<=j'->j'<u+n+m->xs[j']? = some q->Le κ p q:=fun j p h1 h2 e j' q h3 h4 e'=>by
  by_cases h5:j'<u+n
  ·exact s1 j j' p q h1 h3 h5 e e'
  ·exact(g1 (j - u) p (by omega) (by rw[show u+(j - u)=j by omega]; exact e)).trans (s2 (u+n) j' b1 q (Nat.le_refl _) (by omega) h4 eb1 e')
 by_cases hk0:n - k=0
 ·rw[if_pos (bN hk0)]
  refine wpS_pure (h st1 B1 pe1 ?_ (fun j _=>by rw[ar1]))
  rw[ar1]
  intro j j' p q h1 h2 h3 e e'
  by_cases h4:j<u+n
  ·exact le1 j p h1 (by omega) e j' q h2 h3 e'
  ·exact s2 j j' p q (by omega) h2 h3 e e'
 rw[if_neg (bT hk0)]
 have ev:u+k+(n - k) - 1=u+n - 1:=by omega
 rw[ev]
 obtain⟨al,eal⟩:=bF (show u+n - 1<xs.size by omega)
 refine wpS_bind (bG eal (wpS_bind (gA hO k1 (AK _ _ eal) AK (by omega) (by omega) (fun i j p q hij hj e1 e2=>s2 _ _ p q (by omega) (by omega) (by omega) e1 e2) fun t ht g3 g4=>?_)))
 dsimp only
 obtain⟨a1,ea1⟩:=bF (show u+k<xs.size by omega)
 have hb1a1:Lt κ b1 a1:=g2 k a1 (Nat.le_refl _) (by omega) ea1
 by_cases ht0:t=0
 ·exfalso
  have:=g4 0 b1 (by omega) m0 eb1
  have h5:=s1 (u+k) (u+n - 1) a1 al (by omega) (by omega) (by omega) ea1 eal
  exact KeyOrd.not_klt_of_kle (h5.trans this) hb1a1
 rw[if_neg (bT ht0)]
 have T:Two κ (xs.extract (u+k) (u+n)) (xs.extract (u+n) (u+n+t)):=by
  have hx:∀ (i:Nat) p,(xs.extract (u+k) (u+n))[i]? = some p->u+k+i<u+n/\xs[u+k+i]? = some p:=fun i p e=>by
   rw[x6 (by omega)]at e
   by_cases hh:u+k+i<u+n
   ·rw[if_pos hh]at e; exact⟨hh,e⟩
   ·rw[if_neg hh]at e; cases e
  have hy:∀ (i:Nat) p,(xs.extract (u+n) (u+n+t))[i]? = some p->u+n+i<u+n+t/\xs[u+n+i]? = some p:=fun i p e=>by
   rw[x6 (by omega)]at e
   by_cases hh:u+n+i<u+n+t
   ·rw[if_pos hh]at e; exact⟨hh,e⟩
   ·rw[if_neg hh]at e; cases e
  have zx:(xs.extract (u+k) (u+n)).size=n - k:=by rw[Array.size_extract]; omega
  have zy:(xs.extract (u+n) (u+n+t)).size=t:=by rw[Array.size_extract]; omega
  refine⟨fun i p e=>AK _ _ (hx i p e).2,fun i p e=>AK _ _ (hy i p e).2,fun i j p q hij e e'=>?_,fun i j p q hij e e'=>?_,by omega,by omega,fun p q e e'=>?_,fun p q e e'=>?_⟩
  ·obtain⟨a1,a2⟩:=hx i p e
   obtain⟨a3,a4⟩:=hx j q e'
   exact s1 _ _ p q (by omega) (by omega) a3 a2 a4
  ·obtain⟨a1,a2⟩:=hy i p e
   obtain⟨a3,a4⟩:=hy j q e'
   exact s2 _ _ p q (by omega) (by omega) (by omega) a2 a4
  ·obtain⟨_,a2⟩:=hx 0 p e
   obtain⟨_,a4⟩:=hy 0 q e'
   rw[Nat.add_zero]at a2 a4
   rw[ea1]at a2
   rw[eb1]at a4
   cases a2
   cases a4
   exact hb1a1.le
  ·rw[zx]at e
   rw[zy]at e'
   obtain⟨_,a2⟩:=hx _ p e
   obtain⟨_,a4⟩:=hy _ q e'
   rw[show u+k+(n - k - 1)=u+n - 1 by omega,eal]at a2
   cases a2
   exact(g3 (t - 1) q (by omega) a4).le
 have fin:∀ r st',c9 st1 st'->lI κ (xs.extract (u+k) (u+n)) (xs.extract (u+n) (u+n+t)) r->wpS (model prog w) A E s (do
   modify fun z=>setArr z (r.toList.zipIdx.foldl (fun a (p,j)=>a.setIfInBounds (u+k+j) p) (arrOf z))
   return (failedOf (<- get)).isNone) Q st':=by
  intro r st' ss gd
  obtain⟨pp,rl⟩:=DP (xs:=xs) (u:=u+k) (v:=u+n) (m:=t) (r:=r) (by omega) (by omega) gd.1
  have hsz':u+k+r.toList.length<=xs.size:=by omega
  refine wpS_bind (wpS_modify (wpS_bind (wpS_get ?_)))
  have ear:arrOf st'=xs:=ss.2.1.trans ar1
  generalize hst2:setArr st' (r.toList.zipIdx.foldl (fun a (p,j)=>a.setIfInBounds (u+k+j) p) (arrOf st'))=st2
  have ar2:arrOf st2=put xs (u+k) r.toList 0:=by
   rw[<- hst2]
   show r.toList.zipIdx.foldl (fun a (p,j)=>a.setIfInBounds (u+k+j) p) (arrOf st')=_
   rw[ear]
   rfl
  have f2:failedOf st2=none:=by rw[<- hst2]; exact ss.2.2.2.trans f1
  have k2:kindOf st2=oneType':=by rw[<- hst2]; exact ss.1.trans k1
  have p2:pendingOf st2=pendingOf st1:=by rw[<- hst2]; exact ss.2.2.1
  rw[f2]
  refine wpS_pure (h st2 ⟨k2,f2,?_⟩ (p2.trans pe1) ?_ fun j hj=>?_)
  ·rw[ar2]
   have hp0:=B1.perm
   rw[ar1]at hp0
   exact pp.trans hp0
  ·rw[ar2]
   have fromM:∀ p,p∈r.toList->(∃ j,u+k<=j/\j<u+n/\xs[j]? = some p)\/∃ j,u+n<=j/\j<u+n+t/\xs[j]? = some p:=fun p hp=>by
    have:=gd.1.mem_iff.mp hp
    rw[List.mem_append]at this
    rcases this with hh | hh
    ·obtain⟨j,hj⟩:=List.mem_iff_getElem?.mp hh
     rw[Array.getElem?_toList,x6 (by omega)]at hj
     by_cases hz:u+k+j<u+n
     ·rw[if_pos hz]at hj
      exact .inl ⟨_,by omega,hz,hj⟩
     ·rw[if_neg hz]at hj; cases hj
    ·obtain⟨j,hj⟩:=List.mem_iff_getElem?.mp hh
     rw[Array.getElem?_toList,x6 (by omega)]at hj
     by_cases hz:u+n+j<u+n+t
     ·rw[if_pos hz]at hj
      exact .inr ⟨_,by omega,hz,hj⟩
     ·rw[if_neg hz]at hj; cases hj
   have le3:∀ (j:Nat) p,u+k<=j->j<u+n+t->xs[j]? = some p->∀ (j':Nat) q,u+n+t<=j'->j'<u+n+m->xs[j']? = some q->Le κ p q:=fun j p h1 h2 e j' q h3 h4 e'=>by
    by_cases h5:j<u+n
    ·exact(s1 j (u+n - 1) p al (by omega) (by omega) (by omega) e eal).trans (g4 (j' - (u+n)) q (by omega) (by omega) (by rw[show u+n+(j' - (u+n))=j' by omega]; exact e'))
    ·exact s2 j j' p q (by omega) (by omega) h4 e e'
   intro j j' p q h1 h2 h3 e e'
   rw[DR hsz',rl]at e e'
   by_cases z1:j<u+k
   ·rw[if_pos z1]at e
    by_cases y1:j'<u+k
    ·rw[if_pos y1]at e'
     exact le1 j p h1 z1 e j' q h2 h3 e'
    ·rw[if_neg y1]at e'
     by_cases y2:j'<u+k+(u+n - (u+k)+t)
     ·rw[if_pos y2]at e'
      rcases fromM q (List.mem_of_getElem? e') with ⟨l,l1,l2,l3⟩ | ⟨l,l1,l2,l3⟩
      ·exact le1 j p h1 z1 e l q (by omega) (by omega) l3
      ·exact le1 j p h1 z1 e l q (by omega) (by omega) l3
     ·rw[if_neg y2]at e'
      exact le1 j p h1 z1 e j' q h2 h3 e'
   ·rw[if_neg z1]at e
    rw[if_neg (by omega)]at e'
    by_cases z2:j<u+k+(u+n - (u+k)+t)
    ·rw[if_pos z2]at e
     by_cases y2:j'<u+k+(u+n - (u+k)+t)
     ·rw[if_pos y2]at e'
      rcases Nat.lt_or_ge j j' with hlt | hge
      ·exact List.pairwise_iff_getElem.mp gd.2 (j - (u+k)) (j' - (u+k)) (by omega) (by omega) (by omega) |> fun hh=>by
        have e3:=List.getElem?_eq_some_iff.mp e
        have e4:=List.getElem?_eq_some_iff.mp e'
        obtain⟨_,e3⟩:=e3
        obtain⟨_,e4⟩:=e4
        rw[e3,e4]at hh
        exact hh
      ·have:j=j':=by omega
       subst this
       rw[e]at e'
       cases e'
       exact Le.refl _
     ·rw[if_neg y2]at e'
      rcases fromM p (List.mem_of_getElem? e) with ⟨l,l1,l2,l3⟩ | ⟨l,l1,l2,l3⟩
      ·exact le3 l p (by omega) (by omega) l3 j' q (by omega) h3 e'
      ·exact le3 l p (by omega) (by omega) l3 j' q (by omega) h3 e'
    ·rw[if_neg z2]at e
     rw[if_neg (by omega)]at e'
     exact s2 j j' p q (by omega) h2 h3 e e'
  ·rw[ar2,DR hsz',rl]
   by_cases z1:j<u+k
   ·rw[if_pos z1]
   ·rw[if_neg z1,if_neg (by omega)]
 split
 ·exact wpS_bind (Au hO T k1 fin)
 ·exact wpS_bind (Aw hO T k1 fin)
end
end TS
end
section
namespace TS
open PySem PyProof.Rows
noncomputable def kAt (κ : KeyKind) (xs:Array Keyed) (i:Nat):Option κ.α:=xs[i]?.map (kk κ)
noncomputable def Up (κ : KeyKind) (xs:Array Keyed) (lo hi:Nat):Prop:=∀ (i j:Nat) x y,lo<=i->i<=j->j<hi->kAt κ xs i=some x->kAt κ xs j=some y->κ.kle x y
noncomputable def Dn (κ : KeyKind) (xs:Array Keyed) (lo hi:Nat):Prop:=∀ (i j:Nat) x y,lo<=i->i<=j->j<hi->kAt κ xs i=some x->kAt κ xs j=some y->κ.kle y x
theorem Up.sr {κ : KeyKind} {xs:Array Keyed} {lo hi:Nat} (h:Up κ xs lo hi):SR κ xs lo hi:=fun i j p q h1 h2 h3 e e'=>h i j (kk κ p) (kk κ q) h1 h2 h3 (by unfold kAt; rw[e]; rfl) (by unfold kAt; rw[e']; rfl)
theorem xT {κ : KeyKind} {xs:Array Keyed} {i:Nat} {p:Keyed} (e:xs[i]? = some p):kAt κ xs i=some (kk κ p):=by unfold kAt; rw[e]; rfl
structure Keep (κ : KeyKind) (a₀ : Array Keyed) (lo:Nat) (st st':SortSt):Prop where
 sb:SB κ a₀ st'
 pend:pendingOf st'=pendingOf st
 low:∀ i,i<lo->(arrOf st')[i]? = (arrOf st)[i]?
theorem Keep.trans {κ : KeyKind} {a₀ : Array Keyed} {lo:Nat} {a b c:SortSt} (h:Keep κ a₀ lo a b) (h':Keep κ a₀ lo b c):Keep κ a₀ lo a c:=⟨h'.sb,h'.pend.trans h.pend,fun i hi=>(h'.low i hi).trans (h.low i hi)⟩
theorem Keep.refl {κ : KeyKind} {a₀ : Array Keyed} {lo:Nat} {a:SortSt} (h:SB κ a₀ a):Keep κ a₀ lo a a:=⟨h,rfl,fun _ _=>rfl⟩
theorem Up.snoc {κ : KeyKind} {xs:Array Keyed} {lo n:Nat} {x y:κ.α} (h:Up κ xs lo n) (hn:lo<n) (ex:kAt κ xs (n - 1)=some x) (ey:kAt κ xs n=some y) (hxy:κ.kle x y):Up κ xs lo (n+1):=by
 intro i j u v h1 h2 h3 eu ev
 by_cases hj:j<n
 ·exact h i j u v h1 h2 hj eu ev
 ·have hj:j=n:=by omega
  subst hj
  rw[ey]at ev
  cases ev
  by_cases hi:i=j
  ·subst hi
   rw[ey]at eu
   cases eu
   exact KeyOrd.kle_refl _
  ·exact KeyOrd.kle_trans (h i (j - 1) u x h1 (by omega) (by omega) eu ex) hxy
theorem Dn.snoc {κ : KeyKind} {xs:Array Keyed} {lo n:Nat} {x y:κ.α} (h:Dn κ xs lo n) (hn:lo<n) (ex:kAt κ xs (n - 1)=some x) (ey:kAt κ xs n=some y) (hxy:κ.kle y x):Dn κ xs lo (n+1):=by
 intro i j u v h1 h2 h3 eu ev
 by_cases hj:j<n
 ·exact h i j u v h1 h2 hj eu ev
 ·have hj:j=n:=by omega
  subst hj
  rw[ey]at ev
  cases ev
  by_cases hi:i=j
  ·subst hi
   rw[ey]at eu
   cases eu
   exact KeyOrd.kle_refl _
  ·exact KeyOrd.kle_trans hxy (h i (j - 1) u x h1 (by omega) (by omega) eu ex)
section
variable {prog:Program} {w:World} {A:Around} {E:Value->Shared->Prop} {s:Shared} {κ : KeyKind} {a₀ : Array Keyed}
theorem lK (hO:κ.OneLt) (h0:KeysOf κ a₀) {st:SortSt} (B:SB κ a₀ st) {i j:Nat} {Q:Option Bool->SortSt->Prop} (hi:i<a₀.size) (hj:j<a₀.size) (h:∀ x y,kAt κ (arrOf st) i=some x->kAt κ (arrOf st) j=some y->Q (some (κ.blt x y)) st):wpS (model prog w) A E s (ltAt' i j) Q st:=by
 obtain⟨p,ep⟩:=bF (show i<(arrOf st).size by rw[B.size]; exact hi)
 obtain⟨q,eq⟩:=bF (show j<(arrOf st).size by rw[B.size]; exact hj)
 rw[ltAt'_eq]
 refine wpS_bind (wpS_get ?_)
 dsimp only
 exact wpS_bind (bG ep (wpS_bind (bG eq (yJ hO B.kind (B.keys h0 _ _ ep) (B.keys h0 _ _ eq) (h _ _ (xT ep) (xT eq))))))
theorem Cw {st:SortSt} (B:SB κ a₀ st) {lo i j:Nat} (hlo:lo<=i) (hj:j<=a₀.size) {Q:Unit->SortSt->Prop} (h:∀ st',Keep κ a₀ lo st st'->(∀ k,kAt κ (arrOf st') k=if i<=k/\k<j then kAt κ (arrOf st) (i+j - 1 - k) else kAt κ (arrOf st) k)->Q () st'):wpS (model prog w) A E s (reverseSlice' i j) Q st:=by
 rw[reverseSlice'_eq]
 have hsz:j<=(arrOf st).size:=by rw[B.size]; exact hj
 refine wpS_modify (h _ ⟨⟨B.kind,B.failed,(mirror_perm _ _ _ _).trans B.perm⟩,rfl,fun k hk=>?_⟩ fun k=>?_)
 ·show (mirror (arrOf st) i j ((j - i) / 2))[k]? = _
  rw[getElem?_mirror_all hsz,if_neg (by omega)]
 ·show ((mirror (arrOf st) i j ((j - i) / 2))[k]?).map (kk κ)=_
  rw[getElem?_mirror_all hsz]
  split <;> rfl
theorem Eh (hO:κ.OneLt) (h0:KeysOf κ a₀) {st:SortSt} (B:SB κ a₀ st) {lo a nrem:Nat} (ha:1<=a) (han:a<=nrem) (hn:lo+nrem<=a₀.size) (u:Up κ (arrOf st) lo (lo+a)) {Q:Option Nat->SortSt->Prop} (h:∀ m,1<=m->m<=nrem->Up κ (arrOf st) lo (lo+m)->Q (some m) st) :
  wpS (model prog w) A E s (do
   let mut n:=a
   for _ in [a:nrem] do
    let some y <- ltAt' (lo+n) (lo+n - 1) | return none
    if y then break
    n:=n+1
   return some n) Q st:=by
 dsimp only
 refine wpS_bind (wpS_mono (wpS_forRange (I:=fun x c st'=>st'=st/\c=(none,x)/\Up κ (arrOf st) lo (lo+x)) (Q:=fun c st'=>st'=st/\∃ m,c=(none,m)/\1<=m/\m<=nrem/\Up κ (arrOf st) lo (lo+m)) ?step ?fin ⟨rfl,rfl,u⟩) ?post)
 case fin=>
  rintro c st' ⟨rfl,rfl,u⟩
  refine⟨rfl,_,rfl,by omega,by omega,u⟩
 case step=>
  rintro x c st' hx1 hx2 ⟨rfl,rfl,u⟩
  dsimp only
  refine wpS_bind (lK hO h0 B (by omega) (by omega) fun x' y' ex ey=>?_)
  cases hb:κ.blt x' y' with
  | true=>
   dsimp only
   rw[if_pos rfl]
   exact wpS_pure ⟨rfl,x,rfl,by omega,by omega,u⟩
  | false=>
   dsimp only
   rw[if_neg (by decide)]
   refine wpS_pure ⟨rfl,rfl,?_⟩
   exact u.snoc (by omega) ey ex hb
 case post=>
  rintro c st' ⟨rfl,m,rfl,m1,m2,u⟩
  exact wpS_pure (h m m1 m2 u)
theorem vV (hO:κ.OneLt) (h0:KeysOf κ a₀) {st:SortSt} (B:SB κ a₀ st) {lo a nrem:Nat} (ha:1<=a) (han:a<=nrem) (hn:lo+nrem<=a₀.size) (u:Dn κ (arrOf st) lo (lo+a)) {Q:Option Nat->SortSt->Prop} (h:∀ m st',Keep κ a₀ lo st st'->1<=m->m<=nrem->Up κ (arrOf st') lo (lo+m)->Q (some m) st') :
  wpS (model prog w) A E s (do
   reverseSlice' lo (lo+a)
   let mut n:=a
   for _ in [a:nrem] do
    let some y <- ltAt' (lo+n) (lo+n - 1) | return none
    if y then break
    n:=n+1
   return some n) Q st:=by
 refine wpS_bind (Cw B (Nat.le_refl lo) (by omega) fun st1 k1 e1=>?_)
 refine Eh hO h0 k1.sb ha han hn (fun i j x y h1 h2 h3 ex ey=>?_) fun m m1 m2 u=>h m st1 k1 m1 m2 u
 rw[e1,if_pos (by omega)]at ex ey
 exact u _ _ y x (by omega) (by omega) (by omega) ey ex
noncomputable def Eqs (κ : KeyKind) (xs:Array Keyed) (lo hi:Nat):Prop:=∀ i,lo<=i->i<hi->kAt κ xs i=kAt κ xs (hi - 1)
theorem rC {st:SortSt} (B:SB κ a₀ st) {lo i j:Nat} (hlo:lo<=i) (hj:j<=a₀.size) (hq:Eqs κ (arrOf st) i j) {Q:Unit->SortSt->Prop} (h:∀ st',Keep κ a₀ lo st st'->(∀ k,kAt κ (arrOf st') k=kAt κ (arrOf st) k)->Q () st'):wpS (model prog w) A E s (reverseSlice' i j) Q st:=by
 refine Cw B hlo hj fun st' k' e'=>h st' k' fun k=>?_
 rw[e']
 by_cases hk:i<=k/\k<j
 ·rw[if_pos hk,hq _ (by omega) (by omega),hq k hk.1 hk.2]
 ·rw[if_neg hk]
theorem Dn.congr {xs ys:Array Keyed} {lo hi:Nat} (h:Dn κ xs lo hi) (e:∀ k,kAt κ ys k=kAt κ xs k):Dn κ ys lo hi:=fun i j x y h1 h2 h3 ex ey=>h i j x y h1 h2 h3 (by rw[<- e]; exact ex) (by rw[<- e]; exact ey)
set_option maxHeartbeats 1000000 in
theorem Bf (hO:κ.OneLt) (h0:KeysOf κ a₀) {st:SortSt} (B:SB κ a₀ st) {lo a nrem:Nat} (ha:1<=a) (han:a+1<=nrem) (hn:lo+nrem<=a₀.size) (u:Dn κ (arrOf st) lo (lo+(a+1))) {Q:Option Nat->SortSt->Prop} (h:∀ m st',Keep κ a₀ lo st st'->1<=m->m<=nrem->Up κ (arrOf st') lo (lo+m)->Q (some m) st') :
  wpS (model prog w) A E s (do
   rule "list.sort.descending-run"; let mut n:=a+1
   let mut e:=0
   for _ in [n:nrem] do
    let some y <- ltAt' (lo+n) (lo+n - 1) | return none
    if y then
     if e > 0 then reverseSlice' (lo+n - (e+1)) (lo+n)
     e:=0
    else
     let some z <- ltAt' (lo+n - 1) (lo+n) | return none
     if z then break
     e:=e+1
    n:=n+1
   if e > 0 then reverseSlice' (lo+n - (e+1)) (lo+n)
   reverseSlice' lo (lo+n)
   for _ in [n:nrem] do
    let some y <- ltAt' (lo+n) (lo+n - 1) | return none
    if y then break
    n:=n+1
   return some n) Q st:=by
 refine wpS_bind (wpS_lift (wpAny_rule ⟨rfl,?_⟩))
 dsimp only
 refine wpS_bind (wpS_mono (wpS_forRange (I:=fun x c st'=>Keep κ a₀ lo st st'/\∃ e,c=(none,x,e)/\Dn κ (arrOf st') lo (lo+x)/\e+1<=x/\Eqs κ (arrOf st') (lo+x - (e+1)) (lo+x))
  (Q:=fun c st'=>Keep κ a₀ lo st st'/\∃ m e,c=(none,m,e)/\a+1<=m/\m<=nrem/\Dn κ (arrOf st') lo (lo+m)/\e+1<=m/\Eqs κ (arrOf st') (lo+m - (e+1)) (lo+m)) ?step ?fin ⟨Keep.refl B,0,rfl,u,by omega,fun i h1 h2=>by congr 1; omega⟩) ?post)
 case fin=>
  rintro c st' ⟨k,e,rfl,u,e1,e2⟩
  rw[show max (a+1) nrem=nrem by omega]at *
  exact⟨k,nrem,e,rfl,han,Nat.le_refl _,u,e1,e2⟩
 case step=>
  rintro x c st' hx1 hx2 ⟨k,e,rfl,u,e1,e2⟩
  dsimp only
  refine wpS_bind (lK hO h0 k.sb (by omega) (by omega) fun x' y' ex ey=>?_)
  cases hb:κ.blt x' y' with
  | true=>
   dsimp only
   rw[if_pos rfl]
   have u':=u.snoc (by omega) ey ex (KeyOrd.kle_of_klt hb)
   by_cases he:e > 0
   ·rw[if_pos he]
    refine wpS_bind (rC (lo:=lo) k.sb (by omega) (by omega) e2 fun st2 k2 c2=>wpS_pure ⟨k.trans k2,0,rfl,u'.congr c2,by omega,fun i h1 h2=>by congr 1; omega⟩)
   ·rw[if_neg he]
    exact wpS_pure ⟨k,0,rfl,u',by omega,fun i h1 h2=>by congr 1; omega⟩
  | false=>
   dsimp only
   rw[if_neg (by decide)]
   refine wpS_bind (lK hO h0 k.sb (by omega) (by omega) fun y2 x2 ey2 ex2=>?_)
   rw[ex]at ex2
   rw[ey]at ey2
   cases ex2
   cases ey2
   cases hb2:κ.blt y' x' with
   | true=>
    dsimp only
    rw[if_pos rfl]
    exact wpS_pure ⟨k,x,e,rfl,hx1,by omega,u,e1,e2⟩
   | false=>
    dsimp only
    rw[if_neg (by decide)]
    have exy:x'=y':=KeyOrd.kle_antisymm hb2 hb
    subst exy
    refine wpS_pure ⟨k,e+1,rfl,u.snoc (by omega) ey ex (KeyOrd.kle_refl _),by omega,fun i h1 h2=>?_⟩
    rw[show lo+(x+1) - 1=lo+x by omega,ex]
    by_cases hi:i=lo+x
    ·rw[hi,ex]
    ·rw[e2 i (by omega) (by omega),ey]
 case post=>
  rintro c st' ⟨k,m,e,rfl,m1,m2,u,e1,e2⟩
  dsimp only
  by_cases he:e > 0
  ·rw[if_pos he]
   refine wpS_bind (rC (lo:=lo) k.sb (by omega) (by omega) e2 fun st2 k2 c2=>?_)
   exact vV hO h0 k2.sb (by omega) m2 hn (u.congr c2) fun m' st3 k3=>h m' st3 (k.trans (k2.trans k3))
  ·rw[if_neg he]
   exact vV hO h0 k.sb (by omega) m2 hn u fun m' st3 k3=>h m' st3 (k.trans k3)
set_option maxHeartbeats 1000000 in
theorem z9 (hO:κ.OneLt) (h0:KeysOf κ a₀) {st:SortSt} (B:SB κ a₀ st) {lo nrem:Nat} (hr:1<=nrem) (hn:lo+nrem<=a₀.size) {Q:Option Nat->SortSt->Prop} (h:∀ m st',Keep κ a₀ lo st st'->1<=m->m<=nrem->Up κ (arrOf st') lo (lo+m)->Q (some m) st'):wpS (model prog w) A E s (countRun' lo nrem) Q st:=by
 rw[countRun'_eq]
 dsimp only
 refine wpS_bind (wpS_mono (wpS_forRange (I:=fun x c st'=>st'=st/\c=(none,x)/\Up κ (arrOf st) lo (lo+x)) (Q:=fun c st'=>st'=st/\∃ m,c=(none,m)/\1<=m/\m<=nrem/\Up κ (arrOf st) lo (lo+m)/\(m=nrem\/∃ x y,kAt κ (arrOf st) (lo+m)=some x/\kAt κ (arrOf st) (lo+m - 1)=some y/\κ.klt x y)) ?step ?fin ⟨rfl,rfl,?u1⟩) ?post)
 case u1=>
  intro i j x y h1 h2 h3 ex ey
  have:i=j:=by omega
  subst this
  rw[ex]at ey
  cases ey
  exact KeyOrd.kle_refl _
 case fin=>
  rintro c st' ⟨rfl,rfl,u⟩
  rw[show max 1 nrem=nrem by omega]at *
  exact⟨rfl,_,rfl,hr,Nat.le_refl _,u,.inl rfl⟩
 case step=>
  rintro x c st' hx1 hx2 ⟨rfl,rfl,u⟩
  dsimp only
  refine wpS_bind (lK hO h0 B (by omega) (by omega) fun x' y' ex ey=>?_)
  cases hb:κ.blt x' y' with
  | true=>
   dsimp only
   rw[if_pos rfl]
   exact wpS_pure ⟨rfl,x,rfl,hx1,by omega,u,.inr ⟨x',y',ex,ey,hb⟩⟩
  | false=>
   dsimp only
   rw[if_neg (by decide)]
   exact wpS_pure ⟨rfl,rfl,u.snoc (by omega) ey ex hb⟩
 case post=>
  rintro c st' ⟨rfl,m,rfl,m1,m2,u,hend⟩
  dsimp only
  by_cases hm:m=nrem
  ·rw[if_pos (bN hm)]
   exact wpS_pure (h m st' (Keep.refl B) m1 m2 u)
  rw[if_neg (bT hm)]
  obtain⟨x,y,ex,ey,hxy⟩:∃ x y,kAt κ (arrOf st') (lo+m)=some x/\kAt κ (arrOf st') (lo+m - 1)=some y/\κ.klt x y:=by
   rcases hend with z | z
   ·exact absurd z hm
   ·exact z
  by_cases h1:m > 1
  ·rw[if_pos h1]
   refine wpS_bind (lK hO h0 B (by omega) (by omega) fun x0 y0 ex0 ey0=>?_)
   cases hb:κ.blt x0 y0 with
   | true=>
    dsimp only
    rw[if_pos rfl]
    exact wpS_pure (h m st' (Keep.refl B) m1 m2 u)
   | false=>
    dsimp only
    rw[if_neg (by decide)]
    have eqs:Eqs κ (arrOf st') lo (lo+m):=fun i h1 h2=>by
     obtain⟨p,ep⟩:=bF (show i<(arrOf st').size by rw[B.size]; omega)
     have ei:=xT (κ:=κ) ep
     rw[ei,ey0]
     congr 1
     refine KeyOrd.kle_antisymm (u i (lo+m - 1) _ _ h1 (by omega) (by omega) ei ey0) ?_
     exact KeyOrd.kle_trans hb (u lo i _ _ (Nat.le_refl _) h1 h2 ex0 ei)
    refine wpS_bind (rC B (Nat.le_refl lo) (by omega) eqs fun st2 k2 c2=>?_)
    refine Bf hO h0 k2.sb m1 (by omega) hn ?_ fun m' st3 k3=>h m' st3 (k2.trans k3)
    have d1:Dn κ (arrOf st') lo (lo+m):=fun i j x1 y1 h1 h2 h3 e1 e2=>by
     rw[eqs i h1 (by omega)]at e1
     rw[eqs j (by omega) h3,e1]at e2
     cases e2
     exact KeyOrd.kle_refl _
    exact(d1.snoc (by omega) ey ex (KeyOrd.kle_of_klt hxy)).congr c2
  ·rw[if_neg h1]
   refine Bf hO h0 B m1 (by omega) hn ?_ h
   have d1:Dn κ (arrOf st') lo (lo+m):=fun i j x1 y1 h1 h2 h3 e1 e2=>by
    have:i=j:=by omega
    subst this
    rw[e1]at e2
    cases e2
    exact KeyOrd.kle_refl _
   exact d1.snoc (by omega) ey ex (KeyOrd.kle_of_klt hxy)
end
end TS
end
section
namespace TS
open PySem PyProof.Rows
section
variable {prog:Program} {w:World} {A:Around} {E:Value->Shared->Prop} {s:Shared} {κ : KeyKind} {a₀ : Array Keyed}
theorem Ek {st:SortSt} (B:SB κ a₀ st) {lo src dst:Nat} (h1:lo<=dst) (h2:dst<=src) (h3:src<a₀.size) {Q:Unit->SortSt->Prop} (h:∀ st',Keep κ a₀ lo st st'->(∀ k,kAt κ (arrOf st') k=if k=dst then kAt κ (arrOf st) src else if dst<k/\k<=src then kAt κ (arrOf st) (k - 1) else kAt κ (arrOf st) k)->Q () st'):wpS (model prog w) A E s (moveDown' src dst) Q st:=by
 rw[moveDown'_eq]
 have hsz:src<(arrOf st).size:=by rw[B.size]; exact h3
 refine wpS_modify (h _ ⟨⟨B.kind,B.failed,(bubble_perm _ _ _).trans B.perm⟩,rfl,fun k hk=>?_⟩ fun k=>?_)
 ·show (bubble (arrOf st) src (src - dst))[k]? = _
  rw[getElem?_bubble hsz _ (by omega),if_neg (by omega),if_neg (by omega)]
 ·show ((bubble (arrOf st) src (src - dst))[k]?).map (kk κ)=_
  rw[getElem?_bubble hsz _ (by omega),show src - (src - dst)=dst by omega]
  split
  ·rfl
  ·split <;> rfl
set_option maxHeartbeats 1000000 in
theorem Cu (hO:κ.OneLt) (h0:KeysOf κ a₀) {st:SortSt} (B:SB κ a₀ st) {lo n ok:Nat} (h1:1<=ok) (h2:ok<=n) (hn:lo+n<=a₀.size) (u:Up κ (arrOf st) lo (lo+ok)) {Q:Bool->SortSt->Prop} (h:∀ st',Keep κ a₀ lo st st'->Up κ (arrOf st') lo (lo+n)->Q true st'):wpS (model prog w) A E s (binarySort' lo n ok) Q st:=by
 rw[binarySort'_eq]
 refine wpS_bind (wpS_mono (wpS_forRange (I:=fun k c st'=>c=(none,())/\Keep κ a₀ lo st st'/\Up κ (arrOf st') lo (lo+k)) (Q:=fun c st'=>c=(none,())/\Keep κ a₀ lo st st'/\Up κ (arrOf st') lo (lo+n)) ?step ?fin ?init) ?post)
 case init=>
  rw[show max ok 1=ok by omega]
  exact⟨rfl,Keep.refl B,u⟩
 case fin=>
  rintro c st' ⟨rfl,k,u⟩
  rw[show max (max ok 1) n=n by omega]at u
  exact⟨rfl,k,u⟩
 case post=>
  rintro c st' ⟨rfl,k,u⟩
  exact wpS_pure (h st' k u)
 case step=>
  rintro k c st' hk1 hk2 ⟨rfl,K,u⟩
  dsimp only
  obtain⟨py,epy⟩:=bF (show lo+k<(arrOf st').size by rw[K.sb.size]; omega)
  have ey:=xT (κ:=κ) epy
  generalize kk κ py=y at ey
  refine wpS_bind (wpS_mono (wpS_forRange (I:=fun x c st''=>st''=st'/\∃ l r,c=(none,l,r)/\l<=r/\r<=k/\r - l<=k - x/\(∀ i z,i<l->kAt κ (arrOf st') (lo+i)=some z->κ.kle z y)/\(∀ i z,r<=i->i<k->kAt κ (arrOf st') (lo+i)=some z->κ.klt y z))
   (Q:=fun c st''=>st''=st'/\∃ l,c=(none,l,l)/\l<=k/\(∀ i z,i<l->kAt κ (arrOf st') (lo+i)=some z->κ.kle z y)/\(∀ i z,l<=i->i<k->kAt κ (arrOf st') (lo+i)=some z->κ.klt y z)) ?istep ?ifin ⟨rfl,0,k,rfl,by omega,by omega,by omega,fun i z hi=>by omega,fun i z h1 h2=>by omega⟩) ?ipost)
  case ifin=>
   rintro c st'' ⟨rfl,l,r,rfl,b1,b2,b3,b4,b5⟩
   have:l=r:=by omega
   subst this
   exact⟨rfl,l,rfl,b2,b4,b5⟩
  case istep=>
   rintro x c st'' _ hx ⟨rfl,l,r,rfl,b1,b2,b3,b4,b5⟩
   dsimp only
   by_cases hlr:l ≥ r
   ·rw[if_pos hlr]
    have:l=r:=by omega
    subst this
    exact wpS_pure ⟨rfl,l,rfl,b2,b4,b5⟩
   ·rw[if_neg hlr]
    refine wpS_bind (lK hO h0 K.sb (by omega) (by omega) fun y' z ey' ez=>?_)
    rw[ey]at ey'
    cases ey'
    cases hb:κ.blt y z with
    | true=>
     dsimp only
     rw[if_pos rfl]
     refine wpS_pure ⟨rfl,l,(l+r) / 2,rfl,by omega,by omega,by omega,b4,fun i z' h1 h2 e=>?_⟩
     exact KeyOrd.klt_of_klt_of_kle hb (u (lo+(l+r) / 2) (lo+i) z z' (by omega) (by omega) (by omega) ez e)
    | false=>
     dsimp only
     rw[if_neg (by decide)]
     refine wpS_pure ⟨rfl,(l+r) / 2+1,r,rfl,by omega,by omega,by omega,fun i z' h1 e=>?_,b5⟩
     exact KeyOrd.kle_trans (u (lo+i) (lo+(l+r) / 2) z' z (by omega) (by omega) (by omega) e ez) hb
  case ipost=>
   rintro c st'' ⟨rfl,l,rfl,b2,b4,b5⟩
   dsimp only
   refine wpS_bind (Ek (lo:=lo) K.sb (by omega) (by omega) (by omega) fun st2 k2 c2=>wpS_pure ⟨rfl,K.trans k2,fun i j z1 z2 g1 g2 g3 e1 e2=>?_⟩)
   rw[c2]at e1 e2
   by_cases i1:i=lo+l
   ·rw[if_pos i1,ey]at e1
    cases e1
    by_cases j1:j=lo+l
    ·rw[if_pos j1,ey]at e2
     cases e2
     exact KeyOrd.kle_refl _
    ·rw[if_neg j1,if_pos (by omega)]at e2
     exact KeyOrd.kle_of_klt (b5 (j - 1 - lo) z2 (by omega) (by omega) (by rw[show lo+(j - 1 - lo)=j - 1 by omega]; exact e2))
   ·rw[if_neg i1]at e1
    by_cases i2:lo+l<i/\i<=lo+k
    ·rw[if_pos i2]at e1
     rw[if_neg (by omega),if_pos (by omega)]at e2
     exact u (i - 1) (j - 1) z1 z2 (by omega) (by omega) (by omega) e1 e2
    ·rw[if_neg i2]at e1
     by_cases j1:j=lo+l
     ·rw[if_pos j1,ey]at e2
      cases e2
      exact b4 (i - lo) z1 (by omega) (by rw[show lo+(i - lo)=i by omega]; exact e1)
     ·rw[if_neg j1]at e2
      by_cases j2:lo+l<j/\j<=lo+k
      ·rw[if_pos j2]at e2
       exact u i (j - 1) z1 z2 g1 (by omega) (by omega) e1 e2
      ·rw[if_neg j2]at e2
       exact u i j z1 z2 g1 g2 (by omega) e1 e2
end
noncomputable def lJ:Nat->List (Nat × Nat × Nat)->Nat->Prop
 | t,[],e=>t=e
 | t,r::rs,e=>r.1=t/\0<r.2.1/\lJ (t+r.2.1) rs e
theorem jA:∀ {l1 l2:List (Nat × Nat × Nat)} {t e:Nat},lJ t (l1++l2) e ↔ ∃ m,lJ t l1 m/\lJ m l2 e
 | [],l2,t,e=>⟨fun h=>⟨t,rfl,h⟩,fun⟨m,h1,h2⟩=>by cases (show t=m from h1); exact h2⟩
 | r::l1,l2,t,e=>by
  constructor
  ·rintro ⟨h1,h2,h3⟩
   obtain⟨m,h4,h5⟩:=jA.mp h3
   exact⟨m,⟨h1,h2,h4⟩,h5⟩
  ·rintro ⟨m,⟨h1,h2,h4⟩,h5⟩
   exact⟨h1,h2,jA.mpr ⟨m,h4,h5⟩⟩
theorem i9:∀ {l:List (Nat × Nat × Nat)} {t e:Nat},lJ t l e->t+l.length<=e/\∀ r∈l,t<=r.1/\r.1+r.2.1<=e
 | [],t,e,h=>⟨by cases (show t=e from h); simp,fun r hr=>by simp at hr⟩
 | q::l,t,e,⟨h1,h2,h3⟩=>by
  obtain⟨i1,i2⟩:=i9 h3
  refine⟨by rw[List.length_cons]; omega,fun r hr=>?_⟩
  rcases List.mem_cons.mp hr with z | z
  ·subst z
   omega
  ·have:=i2 r z
   omega
theorem qC:∀ {l l':List (Nat × Nat × Nat)} {t e:Nat},l.map (fun r=>(r.1,r.2.1))=l'.map (fun r=>(r.1,r.2.1))->lJ t l e->lJ t l' e
 | [],[],_,_,_,h=>h
 | r::l,r'::l',t,e,hm,⟨h1,h2,h3⟩=>by
  rw[List.map_cons,List.map_cons]at hm
  injection hm with hm1 hm2
  injection hm1 with ha hb
  exact⟨ha ▸ h1,hb ▸ h2,by rw[<- hb]; exact qC hm2 h3⟩
 | [],_::_,_,_,hm,_=>by simp at hm
 | _::_,[],_,_,hm,_=>by simp at hm
structure RB (κ : KeyKind) (a₀ : Array Keyed) (st:SortSt) (lo:Nat):Prop where
 sb:SB κ a₀ st
 chain:lJ 0 (pendingOf st).toList lo
 runs:∀ r∈(pendingOf st).toList,SR κ (arrOf st) r.1 (r.1+r.2.1)
 le:lo<=a₀.size
theorem Up.same {κ : KeyKind} {xs ys:Array Keyed} {lo hi:Nat} (h:Up κ xs lo hi) (e:∀ j,lo<=j->ys[j]? = xs[j]?):Up κ ys lo hi:=fun i j x y h1 h2 h3 ex ey=>h i j x y h1 h2 h3 (by unfold kAt at ex ⊢; rw[<- e i h1]; exact ex) (by unfold kAt at ey ⊢; rw[<- e j (by omega)]; exact ey)
theorem SR.same {κ : KeyKind} {xs ys:Array Keyed} {lo hi:Nat} (h:SR κ xs lo hi) (e:∀ j,lo<=j->j<hi->ys[j]? = xs[j]?):SR κ ys lo hi:=fun i j p q h1 h2 h3 ep eq=>h i j p q h1 h2 h3 (by rw[<- e i h1 (by omega)]; exact ep) (by rw[<- e j (by omega) h3]; exact eq)
theorem RB.push {κ : KeyKind} {a₀ : Array Keyed} {st:SortSt} {lo n:Nat} (R:RB κ a₀ st lo) (u:Up κ (arrOf st) lo (lo+n)) (h1:1<=n) (h2:lo+n<=a₀.size):RB κ a₀ (setPending st ((pendingOf st).push (lo,n,0))) (lo+n):=by
 refine⟨⟨R.sb.kind,R.sb.failed,R.sb.perm⟩,?_,fun r hr=>?_,h2⟩
 ·show lJ 0 ((pendingOf st).push (lo,n,0)).toList (lo+n)
  rw[Array.toList_push]
  exact jA.mpr ⟨lo,R.chain,rfl,h1,rfl⟩
 ·have hr:r∈((pendingOf st).push (lo,n,0)).toList:=hr
  rw[Array.toList_push,List.mem_append]at hr
  rcases hr with hr | hr
  ·exact R.runs r hr
  ·rw[List.mem_singleton.mp hr]
   exact u.sr
theorem RB.repow {κ : KeyKind} {a₀ : Array Keyed} {st:SortSt} {lo pw:Nat} (R:RB κ a₀ st lo):RB κ a₀ (setPending st ((pendingOf st).modify ((pendingOf st).size - 1) fun(x,y,_)=>(x,y,pw))) lo:=by
 have em:((pendingOf st).modify ((pendingOf st).size - 1) fun(x,y,_)=>(x,y,pw)).toList.map (fun r=>(r.1,r.2.1))=(pendingOf st).toList.map (fun r=>(r.1,r.2.1)):=by
  apply List.ext_getElem?
  intro i
  rw[List.getElem?_map,List.getElem?_map,Array.getElem?_toList,Array.getElem?_toList,Array.getElem?_modify]
  split
  ·cases (pendingOf st)[i]? <;> rfl
  ·rfl
 refine⟨⟨R.sb.kind,R.sb.failed,R.sb.perm⟩,qC em.symm R.chain,fun r hr=>?_,R.le⟩
 have:(r.1,r.2.1)∈((pendingOf st).modify ((pendingOf st).size - 1) fun(x,y,_)=>(x,y,pw)).toList.map (fun r=>(r.1,r.2.1)):=List.mem_map_of_mem (f:=fun r:Nat × Nat × Nat=>(r.1,r.2.1)) hr
 rw[em,List.mem_map]at this
 obtain⟨q,hq,e⟩:=this
 injection e with e1 e2
 have:=R.runs q hq
 rw[e1,e2]at this
 exact this
section
variable {prog:Program} {w:World} {A:Around} {E:Value->Shared->Prop} {s:Shared} {κ : KeyKind} {a₀ : Array Keyed}
theorem sR (hO:κ.OneLt) (h0:KeysOf κ a₀) {st:SortSt} {lo i:Nat} (R:RB κ a₀ st lo) (hi:i+1<(pendingOf st).size) {Q:Bool->SortSt->Prop}
  (h:∀ st',RB κ a₀ st' lo->(pendingOf st').size+1=(pendingOf st).size->(∀ j,lo<=j->(arrOf st')[j]? = (arrOf st)[j]?)->Q true st'):wpS (model prog w) A E s (mergeAt' i) Q st:=by
 have hl:i+1<(pendingOf st).toList.length:=by rw[Array.length_toList]; exact hi
 have spl:(pendingOf st).toList=(pendingOf st).toList.take i++(pendingOf st).toList[i]::(pendingOf st).toList[i+1]::(pendingOf st).toList.drop (i+2):=by
  rw[<- List.drop_eq_getElem_cons hl,<- List.drop_eq_getElem_cons (show i<_ by omega),List.take_append_drop]
 have e1:(pendingOf st)[i]? = some (pendingOf st).toList[i]:=by rw[<- Array.getElem?_toList,List.getElem?_eq_getElem]
 have e2:(pendingOf st)[i+1]? = some (pendingOf st).toList[i+1]:=by rw[<- Array.getElem?_toList,List.getElem?_eq_getElem]
 have hlt:((pendingOf st).toList.take i).length=i:=by rw[List.length_take]; omega
 have hset:∀ x,(((pendingOf st).setIfInBounds i x).eraseIdxIfInBounds (i+1)).toList=(pendingOf st).toList.take i++x::(pendingOf st).toList.drop (i+2):=fun x=>by
  rw[Array.toList_eraseIdxIfInBounds,Array.toList_setIfInBounds,List.eraseIdx_eq_take_drop_succ,List.drop_set_of_lt (by omega)]
  have:((pendingOf st).toList.set i x).take (i+1)=(pendingOf st).toList.take i++[x]:=by
   rw[List.take_add_one,List.take_set_of_le (Nat.le_refl _),List.getElem?_set_self (by omega)]
   rfl
  rw[this,List.append_assoc]
  rfl
 generalize (pendingOf st).toList[i]=r1 at spl e1
 generalize (pendingOf st).toList[i+1]=r2 at spl e2
 generalize (pendingOf st).toList.take i=pre at spl hlt hset
 generalize (pendingOf st).toList.drop (i+2)=post at spl hset
 obtain⟨u,n,p1⟩:=r1
 obtain⟨v,m,p2⟩:=r2
 have ch:=R.chain
 rw[spl]at ch
 obtain⟨t,c1,c2,c3,c4,c5,c6⟩:=jA.mp ch
 have c2:u=t:=c2
 have c4:v=t+n:=c4
 subst c2
 subst c4
 have c3:0<n:=c3
 have c5:0<m:=c5
 have c6:lJ (u+n+m) post lo:=c6
 obtain⟨i1,i2⟩:=i9 c6
 obtain⟨i3,i4⟩:=i9 c1
 have le:=R.le
 refine Ay hO h0 R.sb e1 e2 c3 c5 (by omega) (R.runs (u,n,p1) (by rw[spl]; simp)) (R.runs (u+n,m,p2) (by rw[spl]; simp)) fun st' B' pe' sr' out=>h st' ⟨B',?_,fun r hr=>?_,R.le⟩ ?_ fun j hj=>out j (.inr (by omega))
 ·rw[pe',hset]
  exact jA.mpr ⟨u,c1,rfl,by show 0<n+m; omega,by show lJ (u+(n+m)) post lo; rw[show u+(n+m)=u+n+m by omega]; exact c6⟩
 ·rw[pe',hset,List.mem_append]at hr
  rcases hr with hr | hr
  ·have:=i4 r hr
   exact(R.runs r (by rw[spl]; simp [hr])).same fun j h1 h2=>out j (.inl (by omega))
  ·rcases List.mem_cons.mp hr with z | hr
   ·rw[z]
    show SR κ (arrOf st') u (u+(n+m))
    rw[show u+(n+m)=u+n+m by omega]
    exact sr'
   ·have:=i2 r hr
    exact(R.runs r (by rw[spl]; simp [hr])).same fun j h1 h2=>out j (.inr (by omega))
 ·have z1:=congrArg List.length (hset (u,n+m,p1))
  have z2:=congrArg List.length spl
  rw[<- pe',Array.length_toList]at z1
  rw[Array.length_toList]at z2
  rw[z1,z2]
  simp
  omega
theorem Gb (c:Prop) [Decidable c] (i:Nat):(if c then i - 1 else i)<=i:=by
 split
 ·omega
 ·exact Nat.le_refl _
set_option maxHeartbeats 2000000 in
theorem yO (hO:κ.OneLt) (h0:KeysOf κ a₀) {st:SortSt} (B:SB κ a₀ st) (hp:pendingOf st = #[]) (h2:2<=a₀.size) {Q:Unit->SortSt->Prop}
  (h:∀ st',(arrOf st').Perm a₀->failedOf st'=none->SR κ (arrOf st') 0 a₀.size->Q () st'):wpS (model prog w) A E s sortRuns' Q st:=by
 rw[sortRuns'_eq]
 refine wpS_bind (wpS_get ?_)
 dsimp only
 rw[B.size]
 generalize minRun' a₀.size a₀.size 0=mr
 refine wpS_bind (wpS_mono (wpS_forRange (I:=fun x c st'=>∃ lo,c=(none,lo)/\RB κ a₀ st' lo/\x<=lo/\lo<=a₀.size) (Q:=fun c st'=>∃ lo,c=(none,lo)/\RB κ a₀ st' lo/\lo=a₀.size) ?step ?fin ⟨0,rfl,⟨B,by rw[hp]; rfl,fun r hr=>by rw[hp]at hr; simp at hr,Nat.zero_le _⟩,Nat.le_refl _,Nat.zero_le _⟩) ?post)
 case fin=>
  rintro c st' ⟨lo,rfl,R,l1,l2⟩
  exact⟨lo,rfl,R,by omega⟩
 case step=>
  rintro x c st' _ hx ⟨lo,rfl,R,l1,l2⟩
  dsimp only
  by_cases hlo:lo ≥ a₀.size
  ·rw[if_pos hlo]
   exact wpS_pure ⟨lo,rfl,R,by omega⟩
  rw[if_neg hlo]
  refine wpS_bind (z9 hO h0 R.sb (by omega) (by omega) fun n st1 k1 n1 n2 u1=>?_)
  have R1:RB κ a₀ st1 lo:=by
   refine⟨k1.sb,by rw[k1.pend]; exact R.chain,fun r hr=>?_,R.le⟩
   rw[k1.pend]at hr
   have:=(i9 R.chain).2 r hr
   exact(R.runs r hr).same fun j h1 h2=>k1.low j (by omega)
  dsimp only
  by_cases hmr:n<mr
  ·rw[if_pos hmr]
   refine wpS_bind (wpS_lift (wpAny_rule ⟨rfl,?_⟩))
   refine wpS_bind (Cu hO h0 k1.sb n1 (by omega) (by omega) u1 fun st2 k2 u2=>?_)
   rw[if_neg (by decide)]
   have R2:RB κ a₀ st2 lo:=by
    refine⟨k2.sb,by rw[k2.pend]; exact R1.chain,fun r hr=>?_,R.le⟩
    rw[k2.pend]at hr
    have:=(i9 R1.chain).2 r hr
    exact(R1.runs r hr).same fun j h1 h2=>k2.low j (by omega)
   have n3:1<=min (a₀.size - lo) mr:=by omega
   have n4:lo+min (a₀.size - lo) mr<=a₀.size:=by omega
   generalize min (a₀.size - lo) mr=n' at u2 n3 n4 ⊢
   refine wpS_bind (wpS_get ?_)
   cases hb:(pendingOf st2).back? with
   | none=>
    dsimp only
    refine wpS_bind (wpS_modify (wpS_pure ⟨_,rfl,R2.push u2 n3 n4,by omega,by omega⟩))
   | some r=>
    obtain⟨sx,nx,px⟩:=r
    dsimp only
    refine wpS_bind (wpS_mono (wpS_forRange (I:=fun _ c st'=>c=(none,())/\RB κ a₀ st' lo/\Up κ (arrOf st') lo (lo+n')) (Q:=fun c st'=>c=(none,())/\RB κ a₀ st' lo/\Up κ (arrOf st') lo (lo+n')) ?sm (fun _ _ hh=>hh) ⟨rfl,R2,u2⟩) ?pm)
    case sm=>
     rintro y c st' _ _ ⟨rfl,R,U⟩
     refine wpS_bind (wpS_get ?_)
     by_cases hp:(pendingOf st').size > 1
     ·rw[if_pos hp]
      have e2:(pendingOf st')[(pendingOf st').size - 2]? = some (pendingOf st')[(pendingOf st').size - 2]:=getElem?_pos _ _ (by omega)
      rw[e2]
      generalize (pendingOf st')[(pendingOf st').size - 2]=r2
      obtain⟨x1,x2,x3⟩:=r2
      dsimp only
      split
      ·exact wpS_pure ⟨rfl,R,U⟩
      ·refine wpS_bind (sR hO h0 R (by omega) fun st2 R2 _ k2=>?_)
       rw[if_neg (by decide)]
       exact wpS_pure ⟨rfl,R2,U.same k2⟩
     ·rw[if_neg hp]
      exact wpS_pure ⟨rfl,R,U⟩
    case pm=>
     rintro c st' ⟨rfl,R,U⟩
     dsimp only
     refine wpS_bind (wpS_modify (wpS_bind (wpS_modify (wpS_pure ⟨_,rfl,(R.repow).push U n3 n4,by omega,by omega⟩))))
  ·rw[if_neg hmr]
   refine wpS_bind (wpS_get ?_)
   cases hb:(pendingOf st1).back? with
   | none=>
    dsimp only
    refine wpS_bind (wpS_modify (wpS_pure ⟨_,rfl,R1.push u1 n1 (by omega),by omega,by omega⟩))
   | some r=>
    obtain⟨sx,nx,px⟩:=r
    dsimp only
    refine wpS_bind (wpS_mono (wpS_forRange (I:=fun _ c st'=>c=(none,())/\RB κ a₀ st' lo/\Up κ (arrOf st') lo (lo+n)) (Q:=fun c st'=>c=(none,())/\RB κ a₀ st' lo/\Up κ (arrOf st') lo (lo+n)) ?sm (fun _ _ hh=>hh) ⟨rfl,R1,u1⟩) ?pm)
    case sm=>
     rintro y c st' _ _ ⟨rfl,R,U⟩
     refine wpS_bind (wpS_get ?_)
     by_cases hp:(pendingOf st').size > 1
     ·rw[if_pos hp]
      have e2:(pendingOf st')[(pendingOf st').size - 2]? = some (pendingOf st')[(pendingOf st').size - 2]:=getElem?_pos _ _ (by omega)
      rw[e2]
      generalize (pendingOf st')[(pendingOf st').size - 2]=r2
      obtain⟨x1,x2,x3⟩:=r2
      dsimp only
      split
      ·exact wpS_pure ⟨rfl,R,U⟩
      ·refine wpS_bind (sR hO h0 R (by omega) fun st2 R2 _ k2=>?_)
       rw[if_neg (by decide)]
       exact wpS_pure ⟨rfl,R2,U.same k2⟩
     ·rw[if_neg hp]
      exact wpS_pure ⟨rfl,R,U⟩
    case pm=>
     rintro c st' ⟨rfl,R,U⟩
     dsimp only
     refine wpS_bind (wpS_modify (wpS_bind (wpS_modify (wpS_pure ⟨_,rfl,(R.repow).push U n1 (by omega),by omega,by omega⟩))))
 case post=>
  rintro c st' ⟨lo,rfl,R,rfl⟩
  dsimp only
  have hlen:=(i9 R.chain).1
  rw[Array.length_toList]at hlen
  refine wpS_bind (wpS_mono (wpS_forRange (I:=fun x c st'=>c=(none,())/\RB κ a₀ st' a₀.size/\((pendingOf st').size<=1\/(pendingOf st').size+x<=a₀.size)) (Q:=fun c st'=>c=(none,())/\RB κ a₀ st' a₀.size/\(pendingOf st').size<=1) ?s2 ?f2 ⟨rfl,R,.inr (by omega)⟩) ?p2)
  case f2=>
   rintro c st' ⟨rfl,R,hh⟩
   exact⟨rfl,R,by omega⟩
  case s2=>
   rintro x c st' _ hx ⟨rfl,R,hh⟩
   refine wpS_bind (wpS_get ?_)
   by_cases hp1:(pendingOf st').size<=1
   ·rw[if_pos hp1]
    exact wpS_pure ⟨rfl,R,hp1⟩
   rw[if_neg hp1]
   refine wpS_bind (sR hO h0 R ?_ fun st2 R2 z2 _=>?_)
   ·exact Nat.lt_of_le_of_lt (Nat.add_le_add_right (Gb _ _) 1) (by omega)
   ·rw[if_neg (by decide)]
    exact wpS_pure ⟨rfl,R2,by omega⟩
  case p2=>
   rintro c st' ⟨rfl,R,hp1⟩
   refine wpS_pure (h st' R.sb.perm R.sb.failed ?_)
   have ch:=R.chain
   have ru:=R.runs
   have hl:(pendingOf st').toList.length<=1:=by rw[Array.length_toList]; exact hp1
   generalize (pendingOf st').toList=L at ch ru hl
   match L,hl with
   | [],_=>
    have:0=a₀.size:=ch
    omega
   | [r],_=>
    obtain⟨c1,c2,c3⟩:=ch
    have c3:0+r.2.1=a₀.size:=c3
    have:=ru r (by simp)
    rw[c1,c3]at this
    exact this
end
end TS
end
section
namespace TS
open PySem PyProof.Rows
theorem SR.toK {κ : KeyKind} {xs:Array Keyed} {n:Nat} (h:SR κ xs 0 n) (hn:n<=xs.size):SortedToK κ xs n:=fun i j hij hj=>by
 obtain⟨p,ep⟩:=bF (show i<xs.size by omega)
 obtain⟨q,eq⟩:=bF (show j<xs.size by omega)
 have:=h i j p q (Nat.zero_le _) hij hj ep eq
 unfold KK
 rw[ep,eq]
 exact this
section
variable {prog:Program} {w:World} {A:Around} {E:Value->Shared->Prop} {s:Shared} {κ : KeyKind}
set_option maxHeartbeats 1000000 in
theorem oS (hO:κ.OneLt) {a:Addr} {vs:List Value} {n:Nat} {P:PySem.Fin->Shared->Prop} (ho:s.heap.get? a=some (seqObj "list" vs.toArray n)) (h0:KeysOf κ (pairsOf vs)) (hkk:keyKind' vs.toArray=pure oneType') (h2:2<=vs.length) (hz:vs.length<=sizeLine)
  (h:∀ st':SortSt,(arrOf st').Perm (pairsOf vs)->SortedToK κ (arrOf st') (pairsOf vs).size->P (.done (.ret .none)) { s with heap:=sortedHeap s.heap a vs ((arrOf st').map (·.2)) }):wpAny (model prog w) A (Builtin.«list.sort» ⟨[.ref a],[]⟩) P E s:=by
 have ha:a<s.heap.objs.size:=Heap.lt_size ho; have hza:vs.toArray.size=vs.length:=by simp
 rw[list_sort_plain]; refine wpAny_bind (listItems_at ho rfl (wpAny_bind (listUpdate_at ho rfl ?_ (by rw[hza]; exact hz))))
 have ho1:=get?_update_seq ho (fun _=>#[])
 generalize (if ((fun _=>#[]:Array Value->Array Value) vs.toArray).size == vs.toArray.size then n else n+1)=e1 at ho1
 refine wpAny_bind (seqEpoch_at ho1 rfl (wpAny_bind (wpAny_newTuple (wpAny_bind (wpAny_newList (wpAny_holding ?_))) (by simpa using hz))))
 generalize eh6:((s.heap.update a (Obj.mapSeq fun _=>#[])).push (seqObj "tuple" vs.toArray 0)).push (seqObj "list" #[] 0)=h6
 have ho6:h6.get? a=some (seqObj "list" #[] e1):=by
  rw[<- eh6,Heap.get?_push_ne _ _ _ (by rw[size_push',Heap.size_update]; exact Nat.ne_of_lt (Nat.lt_succ_of_lt ha)),Heap.get?_push_ne _ _ _ (by rw[Heap.size_update]; exact Nat.ne_of_lt ha)]; exact ho1
 have h2':¬ vs.toArray.size<2:=by rw[hza]; omega
 show wpAny (model prog w) A _ P E { s with heap:=h6 }
 dsimp only; rw[if_neg h2',if_neg h2',hkk]
 refine wpAny_bind (wpAny_pure ?_)
 have fin:∀ st':SortSt,(arrOf st').Perm (pairsOf vs)->SortedToK κ (arrOf st') (pairsOf vs).size->P (.done (.ret .none)) { s with heap:=h6.update a (Obj.mapSeq fun _=>(arrOf st').map (·.2)) }:=fun st' a1 a2=>by
  have:=h st' a1 a2
  unfold sortedHeap at this
  rw[eh6]at this
  exact this
 refine wpAny_bind (wpAny_mono (yO (κ:=κ) hO (a₀:=pairsOf vs) (st:=SortSt.mk' oneType' (vs.toArray.zip vs.toArray) #[] 7 none) (Q:=fun _ st'=>(arrOf st').Perm (pairsOf vs)/\failedOf st'=none/\SR κ (arrOf st') 0 (pairsOf vs).size) h0 ⟨rfl,rfl,Array.Perm.refl _⟩ rfl (by rw[pairsOf_size]; exact h2) fun st' a1 a2 a3=>⟨a1,a2,a3⟩) ?_ fun _ _ e=>e)
 rintro ⟨⟨⟩,st'⟩ s' ⟨rfl,hp,hf,hs⟩
 have zo:((arrOf st').map (·.2)).size=vs.length:=by rw[Array.size_map,hp.size_eq,pairsOf_size]
 dsimp only; refine wpAny_bind (seqEpoch_at ho6 rfl (wpAny_bind (listUpdate_at ho6 rfl ?_ (by show 0<=sizeLine; omega) (by show ((arrOf st').map (·.2)).size<=sizeLine+1; omega))))
 rw[hf]; simp only[bne_self_eq_false,Bool.false_eq_true,if_false]
 exact wpAny_pure (fin st' hp (hs.toK (by rw[hp.size_eq]; exact Nat.le_refl _)))
end
end TS
namespace TS
open PySem PyProof.Rows
noncomputable def qT:KeyKind where
 α:=Int
 blt a b:=decide (a<b)
 irrefl a:=decide_eq_false (Int.lt_irrefl a)
 trans a b c h1 h2:=decide_eq_true (Int.lt_trans (of_decide_eq_true h1) (of_decide_eq_true h2))
 negTrans a b c h:=by
  have h:=of_decide_eq_true h
  by_cases z:a<b
  ·exact .inl (decide_eq_true z)
  ·exact .inr (decide_eq_true (by omega))
 total a b h1 h2:=by
  have h1:=of_decide_eq_false h1
  have h2:=of_decide_eq_false h2
  omega
 keyOf v:=match v with
  | .int n _=>some n
  | _=>none
 dflt:=0
theorem Dl:qT.OneLt:=by
 intro prog w A E s x y a b Q hx hy q
 cases x with
 | int n t=>
  cases y with
  | int m u=>
   cases (show some n=some a from hx)
   cases (show some m=some b from hy)
   exact oneLt_int q
  | _=>cases hy
 | _=>cases hx
theorem y9 {vs:List Value} {ns:List Int} (h:IntsAre vs ns):KeysOf qT (pairsOf vs):=fun p hp=>by
 obtain⟨n,t,e⟩:=h.intKeys p hp
 exact⟨n,by rw[e]; rfl⟩
theorem sP {xs:Array Keyed} {n:Nat} (h:SortedToK qT xs n):SortedTo xs n:=fun i j hij hj=>by
 have:=h i j hij hj
 have e:∀ k,KK qT xs k=K xs k:=fun k=>by
  unfold KK K
  cases xs[k]? with
  | none=>rfl
  | some p=>
   dsimp only
   cases p.1 <;> rfl
 rw[e,e]at this
 have this:decide (K xs j<K xs i)=false:=this
 have:=of_decide_eq_false this
 omega
end TS
namespace L2
open PySem PySem.Spec PyProof.Rows
section
variable {X:Cx}
noncomputable def DJ:List V->Hp->VK->Prop:=fun xs H Q=>∃ d kvs ns,xs=[.ref d]/\H d=some (.dK kvs)/\kvs.map (·.1)=ns.map Sum.inl/\ns.length<=100000/\
 ∀ p ms,List.Perm ms ns->ms.Pairwise (· <= ·)->H p=none->Q (.ref p) (upd H p (.lst (ms.map .int)))
theorem oE (hc:X.calm=true):eX X (.builtin "sorted") DJ:=by
 intro pins s σ H xs us Q I r h
 obtain⟨d,kvs,ns,rfl,hd,hk,hl,q⟩:=h
 by_cases h64:ns.length<64
 ·exact yD hc pins s σ H _ us Q I r ⟨d,kvs,ns,rfl,hd,hk,h64,q⟩
 have hl':ns.length<=sizeLine:=Nat.le_trans hl (by decide)
 cases r with
 | cons r1 r2=>
  cases r2
  cases (show _=Value.ref d from r1)
  obtain⟨hz,hsm,vs,rel,o,es,ep,dd⟩:=vU I.hok hd
  have hh:X.A.in1.handled=none:=I.ok.hd hc
  have hlen:vs.length=ns.length:=by
   have h1:=rel.length
   have h2:=congrArg List.length hk
   rw[List.length_map,List.length_map]at h2
   omega
  have hkv:vs.map (·.1)=ns.map Sum.inl:=by rw[<- qV rel]; exact hk
  refine wpAny_call (codeAny_call_builtin plain_sorted entry_sorted (wpAny_of_eq (gM _) ?_))
  show wpAny _ _ (checkCount "sorted" 1 1 1 >>= _) _ _ s
  refine wpAny_bind (wpAny_of_eq (a:=()) (by rfl) ?_)
  refine wpAny_bind (PySem.W.kdu_collect (PySem.W.kdl_dict (knd:=cE X.prog X.w) (kvs:=vs) (ep:=ep) hsm) hh ⟨o,es,dd⟩ (by rw[hlen]; exact hl') fun h' tk acc keep hit=>?_)
  have hacc:acc.toList.length=vs.length:=by
   have:=hit.1
   simpa using this
  have hints:IntsAre acc.toList ns:=vJ (prog:=X.prog) (w:=X.w) hkv hacc fun j v hv=>hit.2 j v (by simpa using hv)
  refine wpAny_bind (wpAny_newList ?_ (by rw[hacc,hlen]; exact hl'))
  generalize eh2:h'.push { cls:=.type "list",data:=.seq acc.toList.toArray }=h2
  have g2:h2.get? h'.objs.size=some (seqObj "list" acc.toList.toArray 0):=by
   rw[<- eh2]
   exact Heap.get?_push_size _ rfl
  refine wpAny_bind (wpAny_holding ?_)
  refine wpAny_call_entry (T:="list") PyProof.Rows.slot_list_sort ⟨_,g2,rfl⟩ PyProof.Rows.entry_list_sort ?_ (PyProof.Rows.args_list_sort _)
  have hkk:keyKind' acc.toList.toArray=pure oneType':=by
   match hq:acc.toList,hints,hacc with
   | [],_,hacc=>rw[hlen]at hacc; simp at hacc; omega
   | [_],_,hacc=>rw[hlen]at hacc; simp at hacc; omega
   | v₁ :: v₂ :: rest,hints,_=>exact keyKind_ints hints
  refine TS.oS TS.Dl g2 (TS.y9 hints) hkk (by rw[hacc,hlen]; omega) (by rw[hacc,hlen]; exact hl') fun st' p1 p2=>?_
  obtain⟨ms,hout,perm,pw⟩:=sorted_out hints p1 (TS.sP p2)
  generalize (arrOf st').map (fun x=>x.snd)=out at hout
  refine⟨_,rfl,wpAny_pure ?_⟩
  obtain⟨ep2,gat⟩:=sortedHeap_at (h:=h2) (a:=h'.objs.size) (vs:=acc.toList) (out:=out) g2
  have hf:H h'.objs.size=none:=(I.kept (t':=tk) keep).hok.fresh (Nat.le_refl _)
  refine⟨.ref h'.objs.size,upd H h'.objs.size (.lst (ms.map .int)),(I.kept (t':=tk) keep).laid (t':=tk) (fun b u e=>?_) (Nat.le_refl _) ?_,rfl,q _ ms perm pw hf⟩
  ·have hb:b<h'.objs.size:=Heap.lt_size e
   have h2s:h2.objs.size=h'.objs.size+1:=by rw[<- eh2]; exact Heap.size_push _ _
   rw[sortedHeap_old (Nat.ne_of_lt hb) (by rw[h2s]; exact Nat.lt_succ_of_lt hb),<- eh2]
   exact Heap.get?_push_of_some _ e
  ·refine⟨?_,out.toList,ep2,iT hout,?_⟩
   ·rw[List.length_map,perm.length_eq]
    exact hl'
   ·simpa [seqObj] using gat
noncomputable def DH:List V->Hp->VK->Prop:=fun xs H Q=>∃ d kvs ns,xs=[.ref d]/\H d=some (.dK kvs)/\kvs.map (·.1)=ns.map Sum.inr/\ns.length<=100000/\
 ∀ p ms,List.Perm ms ns->sortedS ms=true->H p=none->Q (.ref p) (upd H p (.lst (ms.map .str)))
theorem yA (hc:X.calm=true):eX X (.builtin "sorted") DH:=by
 intro pins s σ H xs us Q I r h
 obtain⟨d,kvs,ns,rfl,hd,hk,hl,q⟩:=h
 by_cases h64:ns.length<64
 ·exact yB hc pins s σ H _ us Q I r ⟨d,kvs,ns,rfl,hd,hk,h64,q⟩
 have hl':ns.length<=sizeLine:=Nat.le_trans hl (by decide)
 cases r with
 | cons r1 r2=>
  cases r2
  cases (show _=Value.ref d from r1)
  obtain⟨hz,hsm,vs,rel,o,es,ep,dd⟩:=vU I.hok hd
  have hh:X.A.in1.handled=none:=I.ok.hd hc
  have hlen:vs.length=ns.length:=by
   have h1:=rel.length
   have h2:=congrArg List.length hk
   rw[List.length_map,List.length_map]at h2
   omega
  have hkv:vs.map (·.1)=ns.map Sum.inr:=by rw[<- qV rel]; exact hk
  refine wpAny_call (codeAny_call_builtin plain_sorted entry_sorted (wpAny_of_eq (gM _) ?_))
  show wpAny _ _ (checkCount "sorted" 1 1 1 >>= _) _ _ s
  refine wpAny_bind (wpAny_of_eq (a:=()) (by rfl) ?_)
  refine wpAny_bind (PySem.W.kdu_collect (PySem.W.kdl_dict (knd:=cE X.prog X.w) (kvs:=vs) (ep:=ep) hsm) hh ⟨o,es,dd⟩ (by rw[hlen]; exact hl') fun h' tk acc keep hit=>?_)
  have hacc:acc.toList.length=vs.length:=by
   have:=hit.1
   simpa using this
  have hstrs:StrsAre acc.toList ns:=vI (prog:=X.prog) (w:=X.w) hkv hacc fun j v hv=>hit.2 j v (by simpa using hv)
  refine wpAny_bind (wpAny_newList ?_ (by rw[hacc,hlen]; exact hl'))
  generalize eh2:h'.push { cls:=.type "list",data:=.seq acc.toList.toArray }=h2
  have g2:h2.get? h'.objs.size=some (seqObj "list" acc.toList.toArray 0):=by
   rw[<- eh2]
   exact Heap.get?_push_size _ rfl
  refine wpAny_bind (wpAny_holding ?_)
  refine wpAny_call_entry (T:="list") PyProof.Rows.slot_list_sort ⟨_,g2,rfl⟩ PyProof.Rows.entry_list_sort ?_ (PyProof.Rows.args_list_sort _)
  have hkk:keyKind' acc.toList.toArray=pure oneType':=by
   match hq:acc.toList,hstrs,hacc with
   | [],_,hacc=>rw[hlen]at hacc; simp at hacc; omega
   | [_],_,hacc=>rw[hlen]at hacc; simp at hacc; omega
   | v₁ :: v₂ :: rest,hstrs,_=>exact vH hstrs
  refine TS.oS strKind_oneLt g2 hstrs.keysOf hkk (by rw[hacc,hlen]; omega) (by rw[hacc,hlen]; exact hl') fun st' p1 p2=>?_
  obtain⟨ms,hout,perm,pw⟩:=sorted_out_str hstrs p1 p2
  generalize (arrOf st').map (fun x=>x.snd)=out at hout
  refine⟨_,rfl,wpAny_pure ?_⟩
  obtain⟨ep2,gat⟩:=sortedHeap_at (h:=h2) (a:=h'.objs.size) (vs:=acc.toList) (out:=out) g2
  have hf:H h'.objs.size=none:=(I.kept (t':=tk) keep).hok.fresh (Nat.le_refl _)
  refine⟨.ref h'.objs.size,upd H h'.objs.size (.lst (ms.map .str)),(I.kept (t':=tk) keep).laid (t':=tk) (fun b u e=>?_) (Nat.le_refl _) ?_,rfl,q _ ms perm pw hf⟩
  ·have hb:b<h'.objs.size:=Heap.lt_size e
   have h2s:h2.objs.size=h'.objs.size+1:=by rw[<- eh2]; exact Heap.size_push _ _
   rw[sortedHeap_old (Nat.ne_of_lt hb) (by rw[h2s]; exact Nat.lt_succ_of_lt hb),<- eh2]
   exact Heap.get?_push_of_some _ e
  ·refine⟨?_,out.toList,ep2,oG hout,?_⟩
   ·rw[List.length_map,perm.length_eq]
    exact hl'
   ·simpa [seqObj] using gat
end
end L2
end
section
namespace L2
open PySem PySem.Spec PyProof.Rows
section
variable {X:Cx}
end
end L2
end
section
namespace L2
open PySem PySem.Spec PyProof.Rows
section
variable {X:Cx}
noncomputable def tFw (a:Str) (te:TE):TE:=fun σ H Q=>te σ H fun v H1=>∃ i:Int,v = .int i/\0<=i/\i<10 ^ 10/\Q (.str (a++Str.ofString (toString i))) H1
theorem CU {a:Int} (h0:0<=a) (h:a<10 ^ 10):a.natAbs.log2<1920:=by
 have h:a.natAbs<10 ^ 10:=by omega
 by_cases h0:a.natAbs=0
 ·rw[h0]; decide
 ·have h1:a.natAbs.log2<64:=(Nat.log2_lt h0).mpr (Nat.lt_of_lt_of_le h (by decide))
  omega
theorem pe_fw {a:Str} {e:Expr} {te:TE} {k:Nat} {p1 p2 pos:Pos} (he:PE X e te) (ha:a.length<=1000:=by decide):PE X (.JoinedStr [.Constant (.str a) k p1,.FormattedValue e (-1) none p2] pos) (tFw a te):=by
 intro pins s σ H Q I h
 refine wpAny_JoinedStr ?_
 have e2:evalEach [.Constant (.str a) k p1,.FormattedValue e (-1) none p2] X.env=[eval (.Constant (.str a) k p1) X.env,eval (.FormattedValue e (-1) none p2) X.env]:=by rfl
 rw[e2]
 unfold Joins
 refine thn (dW pins s σ H (fun v H1=>v = .str a/\H1=H) I ⟨rfl,rfl⟩) fun v s1 zQq=>?_
 obtain⟨x,H1,I1,r1,hx,hH⟩:=zQq
 subst hx hH
 obtain⟨t,rfl⟩:=r1
 refine⟨a,t,rfl,?_,?_⟩
 ·rw[PySem.W.KT.empty_app]
  exact Nat.le_trans ha (by decide)
 rw[PySem.W.KT.empty_app]
 unfold Joins
 refine wpAny_FormattedValue_plain (thn (he pins s1 σ _ _ I1 h) fun v s2 zQq=>?_)
 obtain⟨x,H2,I2,r2,i,hx,h0,h1,q⟩:=zQq
 subst hx
 obtain⟨u,rfl⟩:=r2
 have hl:(a++Str.ofString (toString i)).length<=sizeLine:=by
  have:=PySem.W.KT.len_num h0 h1
  rw[strLen_append]
  exact Nat.le_trans (show _<=1010 by omega) (by decide)
 refine wpAny_formatField_int (CU h0 h1) ⟨_,_,rfl,hl,hl,?_⟩
 exact⟨.str _,H2,I2.kept (fun _ _ e=>e),⟨_,rfl⟩,q⟩
noncomputable def rSlS:V->Option Int->Option Int->Hp->VK->Prop:=fun x lo hi H Q=>∃ y,x = .str y/\y.length<=sizeLine/\Q (.str (Txt.slice y lo hi)) H
theorem F8:SlR X rSlS:=by
 intro pins s σ H x v vl vu lo hi sl Q I rx hs pl pu h
 obtain⟨y,rfl,hz,q⟩:=h
 obtain⟨t,rfl⟩:=rx
 obtain⟨o,h1,h2,h3⟩:=hs
 refine⟨"str",_,F.slot_str_getitem.lookup,typeIs_str _ _ _,?_⟩
 have key:∀ (l u:Option (Int × Tok)),s.heap.IsSlice sl l u none->l.map (·.1)=lo->u.map (·.1)=hi->wpAny (model X.prog X.w) X.A (getItem (.str y t) (.ref sl)) (EP X pins σ Q) X.xe s:=by
  intro l u hsl e1 e2
  subst e1 e2
  exact wpAny_getItem_str_slice (l:=l) (u:=u) (st:=none) hsl rfl (post_val_or_str ⟨Nat.le_trans (Txt.slice_le y _ _) hz,fun t' k=>⟨.str _,H,I.kept (t':=k) (fun _ _ e=>e),⟨t',rfl⟩,q⟩⟩)
 cases pl with
 | none=>
  cases pu with
  | none=>exact key none none ⟨o,h1,h2,h3⟩ rfl rfl
  | int j u=>exact key none (some (j,u)) ⟨o,h1,h2,h3⟩ rfl rfl
 | int i u=>
  cases pu with
  | none=>exact key (some (i,u)) none ⟨o,h1,h2,h3⟩ rfl rfl
  | int j u'=>exact key (some (i,u)) (some (j,u')) ⟨o,h1,h2,h3⟩ rfl rfl
theorem At:MtR X "str.isdigit" (fun x vs H Q=>∃ y,x = .str y/\vs=[]/\Q (.bl (Txt.isdigit y)) H):=by
 intro pins s σ H x vs v us Q I rx rv h
 obtain⟨y,rfl,rfl,q⟩:=h
 obtain⟨t,rfl⟩:=rx
 cases rv
 exact SC.isdigit ⟨.bl _,H,I,rfl,q⟩
theorem FD (K:PySem.W.Frag) {T id:String} {name:Str} {r:V->List V->Hp->VK->Prop} {o:Expr} {to:TE} {apos cpos:Pos} (pa:PlainAttrs T) (slot:Slot T name id) (hty:typeOf (.builtin id)=pure (.type "method_descriptor")) (hm:MtR X id r) (ho:PE X o to)
  (hbase:attributeBase o name X.env (eval o X.env)=eval o X.env:=by rfl) (hline:(apos.endLine == cpos.line)=true:=by rfl) (hK:X.K=K:=by rfl):PE X (.Call (.Attribute o name apos) [] [] cpos) (tBM0 K T r to):=by
 subst hK
 exact GM pa slot hty hm ho hbase hline
noncomputable def rIntT:List V->Hp->VK->Prop:=fun xs H Q=>∃ x n,xs=[.str x]/\PySem.intText? x=some n/\x.length<=640/\Q (.int n) H
theorem vY:eX X (.type "int") rIntT:=by
 intro pins s σ H xs us Q I r h
 obtain⟨x,n,rfl,hn,hl,q⟩:=h
 obtain⟨u,rfl,t,rfl⟩:=yL r
 exact PySem.W.KIN.call_text hn hl ⟨.int n,H,I.tok _,⟨_,rfl⟩,q⟩
theorem vO:∀ {ns:List Int} {vs:List Value},bQ (ns.map V.int) vs->IntsAre vs ns
 | [],_,h=>by cases h; exact .nil
 | n::ns,_,h=>by
  cases h with
  | cons r h=>
   obtain⟨t,rfl⟩:=r
   exact .cons n t (vO h)
theorem CV:∀ {vs:List Value} {ns:List Int},IntsAre vs ns->2<=ns.length->keyKind' vs.toArray=pure oneType'
 | [],_,h,h2=>by cases h; simp at h2
 | [_],_,h,h2=>by
  have:=IntsAre.length h
  simp at this
  omega
 | v₁ :: v₂ :: rest,_,h,_=>keyKind_ints h
noncomputable def DK:List V->Hp->VK->Prop:=fun xs H Q=>∃ l ns,xs=[.ref l]/\H l=some (.lst (ns.map .int))/\ns.length<=100000/\
 ∀ p ms,List.Perm ms ns->ms.Pairwise (· <= ·)->H p=none->Q (.ref p) (upd H p (.lst (ms.map .int)))
theorem yC:eX X (.builtin "sorted") DK:=by
 intro pins s σ H xs us Q I r h
 obtain⟨l,ns,rfl,hd,hl,q⟩:=h
 have hl':ns.length<=sizeLine:=Nat.le_trans hl (by decide)
 cases r with
 | cons r1 r2=>
  cases r2
  cases (show _=Value.ref l from r1)
  obtain⟨vs,rv,hp,hz⟩:=I.list (SqL.of hd)
  have hI:=vO rv
  have hlen:vs.length=ns.length:=by have:=rv.length; rw[List.length_map]at this; omega
  have fin:∀ (out:Array Value) (ms:List Int),IntsAre out.toList ms->ms.Perm ns->ms.Pairwise (· <= ·)->EP X pins σ Q (.ref (s.heap.objs.size+1)) { s with heap:=sortedAll s.heap vs out }:=by
   intro out ms hout perm pw
   obtain⟨ep2,gat⟩:=sortedAll_at s.heap vs out
   have hf:H (s.heap.objs.size+1)=none:=I.hok.fresh (Nat.le_succ _)
   refine⟨.ref (s.heap.objs.size+1),upd H (s.heap.objs.size+1) (.lst (ms.map .int)),I.laid (t':=s.toks) (fun b u e=>sortedAll_old e) (Nat.le_succ _) ?_,rfl,q _ ms perm pw hf⟩
   refine⟨?_,out.toList,ep2,iT hout,?_⟩
   ·rw[List.length_map,perm.length_eq]
    exact hl'
   ·simpa [seqObj] using gat
  by_cases h64:ns.length<64
  ·exact sorted_ints hp.isList hI (by omega) fin
  refine Calls.call_function_entry kind_sorted plain_sorted entry_sorted (args_sorted1 _) ?_
  unfold Builtin.«sorted»
  refine wpAny_bind (m:=checkCount "sorted" 1 1 _) (wpAny_pure ?_)
  refine wpAny_bind (collect_list hp.isList ?_ (by omega))
  refine wpAny_bind (wpAny_newList ?_ (by omega))
  have hsz:((s.heap.push (seqObj "list" #[] 0)).update s.heap.objs.size (Obj.mapSeq (· ++ vs.toArray))).objs.size=s.heap.objs.size+1:=by
   rw[Heap.size_update,size_push']
  have hoL:(((s.heap.push (seqObj "list" #[] 0)).update s.heap.objs.size (Obj.mapSeq (· ++ vs.toArray))).push (seqObj "list" vs.toArray 0)).get? (s.heap.objs.size+1)=some (seqObj "list" vs.toArray 0):=by
   rw[<- hsz]; exact Heap.get?_push_size _ rfl
  show wpAny _ _ _ _ _ { s with heap:=((s.heap.push (seqObj "list" #[] 0)).update s.heap.objs.size (Obj.mapSeq (· ++ vs.toArray))).push (seqObj "list" vs.toArray 0) }
  rw[hsz]
  have hkk:=CV hI (by omega)
  refine wpAny_bind (wpAny_holding (wpAny_call_entry slot_list_sort ⟨_,hoL,rfl⟩ entry_list_sort (TS.oS TS.Dl hoL (TS.y9 hI) hkk (by omega) (by omega) fun st' p1 p2=>?_) (args_list_sort _)))
  obtain⟨ms,hout,perm,pw⟩:=sorted_out hI p1 (TS.sP p2)
  generalize (arrOf st').map (fun x=>x.snd)=out at hout
  exact⟨_,rfl,wpAny_pure ⟨_,rfl,fin out ms hout perm pw⟩⟩
theorem qR (K:PySem.W.Frag) {X:Cx} {e:Expr} {f:Str} {pos:Pos} {ta:TE} (he:PE X e ta) (hb:attributeBase e f X.env (eval e X.env)=eval e X.env) (hK:X.K=K:=by rfl):PE X (.Attribute e f pos) (tFld K ta f):=by
 subst hK
 exact dD he hb
end
end L2
end
section
namespace L2
open PySem PySem.Spec PyProof.Rows
section
variable {X:Cx}
end
end L2
end
section
namespace L2
open PySem PySem.Spec PyProof.Rows
section
variable {X:Cx}
end
section
variable {X:Cx}
end
end L2
end
section
local macro_rules | `(tactic| trivial) => `(tactic| first | rfl | decide | exact .inl rfl | exact .inr rfl | exact .inr (.inl rfl) | exact .inr (.inr rfl) | (intro _; rfl) | with_unfolding_all rfl)
local macro_rules | `(⋯) => `(by trivial)
local macro_rules | `(‹0›) => `(⟨rfl, rfl, rfl, by decide +kernel, rfl, by decide +kernel, by decide +kernel⟩)
set_option hygiene false in
local macro_rules | `(‹1›) => `(TxtD K mg C_BadName C_Missing C_There C_Stopped C_BadRow C_BadNumber C_Disk)
set_option hygiene false in
local macro_rules | `(‹2›) => `(Callee P w K mg base "segment_name" 1 ["segment"] gE)
set_option hygiene false in
local macro_rules | `(‹3›) => `(Method P w K mg base C_Disk "check_file" 3 ["self", "name"] (iM C_Disk C_BadName C_Missing))
set_option hygiene false in
local macro_rules | `(‹4›) => `(Callee P w K mg base "is_number" 1 ["thing", "least", "most"] jI)
set_option hygiene false in
local macro_rules | `(‹5›) => `(TxtK K mg a_KINDS C_BadRow C_Broken C_Book)
set_option hygiene false in
local macro_rules | `(‹6›) => `(Method P w K mg base C_Disk "count_step" 1 ["self"] (iK C_Disk C_Stopped))
set_option hygiene false in
local macro_rules | `(‹7›) => `(FnOk P w K mg base (CXE P w))
set_option hygiene false in
local macro_rules | `(‹8›) => `(Callee P w K mg base)
set_option hygiene false in
local macro_rules | `(‹9›) => `(Method P w K mg base)
set_option hygiene false in
local macro_rules | `(‹10›) => `(Callee l.prog w K mg base)
set_option hygiene false in
local macro_rules | `(‹11›) => `(Method l.prog w K mg base)
set_option hygiene false in
local macro_rules | `(‹12›) => `((hr.mono (by decide)))
set_option hygiene false in
local macro_rules | `(‹13›) => `((⟨a_KINDS, C_BadRow, C_Broken, C_Book, C_BadName, C_Missing, C_There, C_Stopped, C_BadNumber, C_Disk, C_Queue, C_BadSettings, C_BadBody, C_BadHand, C_NotHeld⟩ : Ad))
set_option hygiene false in
local macro_rules | `(‹14›) => `((fun _ _ _ _ _ _=>uS1 fun _=>rfl))
set_option hygiene false in
local macro_rules | `(‹15›) => `((fun _ _ _ _ _ _=>uS2 fun _ _=>rfl))
set_option hygiene false in
local macro_rules | `(‹16›) => `((fun _ _ _ _ _ _=>uS3 fun _ _ _=>rfl))
set_option hygiene false in
local macro_rules | `(‹17›) => `(@pv _ 0 _ _ ⋯ ⋯ ⋯ ⋯)
set_option hygiene false in
local macro_rules | `(‹18›) => `(@pv _ 1 _ _ ⋯ ⋯ ⋯ ⋯)
set_option hygiene false in
local macro_rules | `(‹19›) => `(@aC _ _ _ (@dC _ _ _ _ _ _ _ _ _ _ eJ (by rfl) T.x_Broken (by rfl) T.m_Broken (@aO _ _ _ _ _ _ _ (@dW _ _ _ _) (@aB _)) ⋯ ⋯ ⋯))
set_option hygiene false in
local macro_rules | `(‹20›) => `(@aO _ _ _ _ _ _ _ (@dW _ _ _ _) (@aB _))
set_option hygiene false in
local macro_rules | `(‹21›) => `(@jY _ _ _ _)
set_option hygiene false in
local macro_rules | `(‹22›) => `(@pv _ 2 _ _ ⋯ ⋯ ⋯ ⋯)
set_option hygiene false in
local macro_rules | `(‹23›) => `(@pv _ 3 _ _ ⋯ ⋯ ⋯ ⋯)
set_option hygiene false in
local macro_rules | `(‹24›) => `(@aC _ _ _ (@bA _ _ _ _ (@BU _ _ _ _)))
set_option hygiene false in
local macro_rules | `(‹25›) => `(@pv _ 4 _ _ ⋯ ⋯ ⋯ ⋯)
set_option hygiene false in
local macro_rules | `(‹26›) => `(fun C s2 H2 ex => (@E6 _))
set_option hygiene false in
local macro_rules | `(‹27›) => `(@dD _ _ _ _ _ ‹17› (by rfl))
set_option hygiene false in
local macro_rules | `(‹28›) => `(@bC _ _ _ _ _ _ _ _ _ (dR K) (by rfl) T.n_len iC (@cJ _ _ _ _ _ _ _ _ (@cU _ _ _ _ _ _ _ _ _ _ _ _ mQ_sizes T.cl_Queue ‹12› aW ‹22› ⋯) (@aB _)) ⋯ ⋯ ⋯ ⋯)
set_option hygiene false in
local macro_rules | `(‹29›) => `(@c8 _ _ _ _ _ _ _ (cQ K) ‹18› ‹21› (fun _ _ => rfl))
set_option hygiene false in
local macro_rules | `(‹30›) => `(@c8 _ _ _ _ _ _ _ (cQ K) ‹17› ‹21› (fun _ _ => rfl))
set_option hygiene false in
local macro_rules | `(‹31›) => `(@bC _ _ _ _ _ _ _ _ _ (dR K) (by rfl) T.n_len iC (@aD _ _ _ _ _ _ ‹18› (@aB _)) ⋯ ⋯ ⋯ ⋯)
set_option hygiene false in
local macro_rules | `(‹32›) => `(@bC _ _ _ _ _ _ _ _ _ (dR K) (by rfl) T.n_len iC (@aD _ _ _ _ _ _ ‹17› (@aB _)) ⋯ ⋯ ⋯ ⋯)
set_option hygiene false in
local macro_rules | `(‹33›) => `(@aD _ _ _ _ _ _ ‹17› (@aB _))
set_option hygiene false in
local macro_rules | `(‹34›) => `(@c8 _ _ _ _ _ _ _ (cQ K) ‹23› ‹21› (fun _ _ => rfl))
set_option hygiene false in
local macro_rules | `(‹35›) => `(@aC _ _ _ (@dC _ _ _ _ _ _ _ _ _ _ eJ (by rfl) T.x_BadSettings (by rfl) T.m_BadSettings ‹20› ⋯ ⋯ ⋯))
set_option hygiene false in
local macro_rules | `(‹36›) => `(@aC _ _ _ (@dC _ _ _ _ _ _ _ _ _ _ eJ (by rfl) T.x_BadRow (by rfl) T.m_BadRow ‹20› ⋯ ⋯ ⋯))
set_option hygiene false in
local macro_rules | `(‹37›) => `(@aS _ _ _ _ _ _ _ _ lA ‹23› (@dW _ _ _ _) (aX _))
set_option hygiene false in
local macro_rules | `(‹38›) => `(@bO _ _ _ _ _ _ _ _ cZ ‹18› (@bX _ _ (.int 7) _ _ (by rfl) hc_HEAD_SIZE ⟨_, rfl⟩ ⋯))
set_option hygiene false in
local macro_rules | `(‹39›) => `(@aO _ _ _ _ _ _ _ ‹21› (@aB _))
set_option hygiene false in
local macro_rules | `(‹40›) => `(@c8 _ _ _ _ _ _ _ (eM K) ‹18› (@DY _ _ _ _ _ _ AH ‹21›) (fun _ _ => rfl))
set_option hygiene false in
local macro_rules | `(‹41›) => `(@aD _ _ _ _ _ _ ‹22› (@aB _))
set_option hygiene false in
local macro_rules | `(‹42›) => `(@aS _ _ _ _ _ _ _ _ lA ‹17› (@dW _ _ _ _) (aX _))
set_option hygiene false in
local macro_rules | `(‹43›) => `(@nU _ _ _ _ _ _ (hu1 hr.units) ‹27› ‹18› (fun _ _ => rfl))
set_option hygiene false in
local macro_rules | `(‹44›) => `(@cV _ _ _ _ _ _ _ ‹27› (@aB _))
section
namespace Qh
open PySem L2
noncomputable def top (i:Nat):Stmt:=PySem.Challenge.pw_queuehold_k25_whole_room_given_back.main.body.getD i (.Pass ⟨0,0,0,0⟩)
noncomputable abbrev kS:Stmt:=top 3
noncomputable abbrev mT:Stmt:=top 4
noncomputable abbrev kT:Stmt:=top 27
noncomputable abbrev sA:Stmt:=top 28
noncomputable abbrev kW:Stmt:=top 29
theorem iC:bootBuiltins "len" = some (.builtin "len"):=by decide +kernel
theorem dS:bootBuiltins "isinstance" = some (.builtin "isinstance"):=by decide +kernel
theorem EY:bootBuiltins "all" = some (.builtin "all"):=by decide +kernel
theorem yG:bootBuiltins "sum" = some (.builtin "sum"):=by decide +kernel
theorem tV:bootBuiltins "tuple" = some (.type "tuple"):=by decide +kernel
theorem BE:bootBuiltins "int" = some (.type "int"):=by decide +kernel
theorem Fg:bootBuiltins "bool" = some (.type "bool"):=by decide +kernel
theorem EW:bootBuiltins "str" = some (.type "str"):=by decide +kernel
noncomputable def cD:List Str:=["put","out","done","from","part","deal","carried","new"]
structure TxtR (K:PySem.W.Frag) (mg:Str->Option Value) (a_KINDS C_BadRow:Addr):Prop where
 n_len:mg "len" = none
 n_isinstance:mg "isinstance" = none
 n_all:mg "all" = none
 n_sum:mg "sum" = none
 n_tuple:mg "tuple" = none
 n_int:mg "int" = none
 n_bool:mg "bool" = none
 n_str:mg "str" = none
 n_range:mg "range" = none
 n_enumerate:mg "enumerate" = none
 c_HIGHEST_BYTE:∃ t,mg "HIGHEST_BYTE" = some (.int 255 t)
 c_HIGHEST_NUMBER:∃ t,mg "HIGHEST_NUMBER" = some (.int 999999 t)
 c_LONGEST_BODY:∃ t,mg "LONGEST_BODY" = some (.int 60 t)
 c_HIGHEST_TIMES:∃ t,mg "HIGHEST_TIMES" = some (.int 9 t)
 c_LARGEST_DEAL:∃ t,mg "LARGEST_DEAL" = some (.int 9 t)
 c_KINDS:mg "KINDS" = some (.ref a_KINDS)
 k_KINDS:∀ H,SqT K H a_KINDS (cD.map V.str)
 l_KINDS:∃ o,K.lookup a_KINDS=some o/\o.cls = .type "tuple"/\o.dict=none
 x_BadRow:cW K C_BadRow=true
 m_BadRow:mg "BadRow" = some (.ref C_BadRow)
noncomputable def bH (lo hi:Int):PyData->Bool
 | .int i=>decide (lo<=i) && decide (i<=hi)
 | _=>false
noncomputable def cI:PyData->Bool
 | .tuple ds=>ds.all (bH 0 255)
 | _=>false
noncomputable def gG (k:Str) (ns:List Int):Bool:=
 if k = "put"\/k = "part" then decide (ns.length<=60)
 else if k = "carried" then decide (1<=ns.length) && decide (ns.length<=61) && decide (ns.headD 0<=9)
 else if k = "deal" then decide (ns.length=1) && decide (1<=ns.headD 0) && decide (ns.headD 0<=9)
 else decide (ns.length=0)
noncomputable def jI:Sp:=fun vs H Q _=>∃ v d lo hi,vs=[v,.int lo,.int hi]/\Den H d v/\Q (.bl (bH lo hi d)) H
noncomputable def fX:Sp:=fun vs H Q _=>∃ v d,vs=[v]/\Den H d v/\(∀ ds,d = .tuple ds->ds.length<=sizeLine)/\∀ H',aF H H'->Q (.bl (cI d)) H'
noncomputable def jJ:Sp:=fun vs H Q _=>∃ k a ns,vs=[.str k,.ref a]/\H a=some (.tup (ns.map V.int))/\Q (.bl (gG k ns)) H
theorem j7 {a b:Str} (h:a=b):decide (V.str a=V.str b)=true:=decide_eq_true (by rw[h])
theorem lW {a b:Str} (h:¬ a=b):decide (V.str a=V.str b)=false:=decide_eq_false (fun z=>h (V.str.inj z))
theorem lY {a b:Int} (h:¬ a=b):decide (V.int a=V.int b)=false:=decide_eq_false (fun z=>h (V.int.inj z))
section
variable {P:Program} {w:World} {K:PySem.W.Frag} {mg:Str->Option Value} {base:Heap} {a_KINDS C_BadRow:Addr}
theorem wO:FnScope ["thing","least","most"] ["thing","least","most"] (aH kS):=‹0›
theorem xL {f:Addr} {fd:FuncData} (F:Fun K "is_number" "is_number" kS f fd) (T:TxtR K mg a_KINDS C_BadRow):‹7› 1 f fd ["thing","least","most"] jI:=by
 refine F.okX wO (fun vs H Q E h=>?_) (fun cdv A outer s H vs Q E hr h=>?_)
 ·obtain⟨v,d,lo,hi,rfl,_⟩:=h
  rfl
 ·obtain⟨v,d,lo,hi,rfl,hd,q⟩:=h
  refine⟨_,@aA _ _ _ _ _ (@a9 _ _ _ _ _ _ _ _ (@PW.pt _ _ _ (@kC _ _ _ _ _ _ _ (@cY _ _ _ (@bC _ _ _ _ _ _ _ _ _ (gT K) (by rfl) T.n_isinstance dS (@aD _ _ _ _ _ _ ‹17› (@aD _ _ _ _ _ _ (@lR _ _ (.ty "bool") _ _ (by rfl) T.n_bool Fg (by rfl) ⋯ ⋯) (@aB _))) ⋯ ⋯ ⋯ ⋯) ⋯) (@hW _ _ _ _ (@cF _ _ _ _ (@cY _ _ _ (@bC _ _ _ _ _ _ _ _ _ (gT K) (by rfl) T.n_isinstance dS (@aD _ _ _ _ _ _ ‹17› (@aD _ _ _ _ _ _ (@lR _ _ (.ty "int") _ _ (by rfl) T.n_int BE (by rfl) ⋯ ⋯) (@aB _))) ⋯ ⋯ ⋯ ⋯) ⋯))))) ‹24› (@aP _)) (@aC _ _ _ (@bA _ _ _ _ (@sK _ _ _ _ _ _ _ _ _ _ _ _ i6 i6 ‹18› ‹17› ‹22› ⋯))),?_⟩
  refine⟨_,rfl,_,_,_,_,rfl,hd.ty,Dt d,_,rfl,?_⟩
  cases d with
  | bool b=>exact aT (aT q)
  | int i=>
   refine aV ⟨_,rfl,_,_,_,_,rfl,hd.ty,lV _,_,rfl,aV ?_⟩
   have e:v = .int i:=by simpa only[Den] using hd
   subst e
   refine⟨_,rfl,_,rfl,_,_,rfl,rfl,_,rfl,?_⟩
   simp only[bH]at q
   by_cases h1:lo<=i
   ·rw[if_pos (decide_eq_true h1)]
    refine⟨_,rfl,_,_,rfl,rfl,?_⟩
    rw[decide_eq_true h1,Bool.true_and]at q
    exact q
   ·rw[if_neg (by simpa using h1)]
    rw[decide_eq_false h1,Bool.false_and]at q
    exact q
  | none=>exact aV ⟨_,rfl,_,_,_,_,rfl,hd.ty,lV _,_,rfl,aT q⟩
  | str x=>exact aV ⟨_,rfl,_,_,_,_,rfl,hd.ty,lV _,_,rfl,aT q⟩
  | tuple x=>exact aV ⟨_,rfl,_,_,_,_,rfl,hd.ty,lV _,_,rfl,aT q⟩
  | list x=>exact aV ⟨_,rfl,_,_,_,_,rfl,hd.ty,lV _,_,rfl,aT q⟩
  | dict x=>exact aV ⟨_,rfl,_,_,_,_,rfl,hd.ty,lV _,_,rfl,aT q⟩
theorem yS:FnScope ["thing"] ["thing"] (aH mT):=‹0›
theorem y8 {f:Addr} {fd:FuncData} (F:Fun K "is_bytes" "is_bytes" mT f fd) (T:TxtR K mg a_KINDS C_BadRow) (c_is_number:‹4›):‹7› 2 f fd ["thing"] fX:=by
 obtain⟨_,hc_HIGHEST_BYTE⟩:=T.c_HIGHEST_BYTE
 refine F.okX yS (fun vs H Q E h=>?_) (fun cdv A outer s H vs Q E hr h=>?_)
 ·obtain⟨v,d,rfl,_⟩:=h
  rfl
 ·obtain⟨v,d,rfl,hd,hz,q⟩:=h
  refine⟨_,@aC _ _ _ (@bA _ _ _ _ (@sM _ _ _ _ _ _ _ (@bC _ _ _ _ _ _ _ _ _ (gT K) (by rfl) T.n_isinstance dS (@aD _ _ _ _ _ _ ‹17› (@aD _ _ _ _ _ _ (@lR _ _ (.ty "tuple") _ _ (by rfl) T.n_tuple tV (by rfl) ⋯ ⋯) (@aB _))) ⋯ ⋯ ⋯ ⋯) (@xC _ _ _ _ _ (@bC _ _ _ _ _ _ _ _ _ (vZ K) (by rfl) T.n_all EY (@f9 _ _ _ _ _ _ _ _ (@eP _ _ _ _ _ _ _ _ _ _ _ ["one"] [] (by rfl) (@BT _ K _ _ _ ‹17› ⋯) (fun C s2 H2 ex=>(@bW _ _ (0) _ (show List.Nodup (["one"]:List Str) by decide +kernel) (by rfl) (Or.inl (by rfl)) ⋯)) ‹26› (fun C s2 H2 ex=>(@bB _ _ _ _ _ _ _ _ _ _ _ c_is_number ‹12› aW (@aD _ _ _ _ _ _ ‹17› (@aO _ _ _ _ _ _ _ ‹21› (@aD _ _ _ _ _ _ (@bX _ _ (.int 255) _ _ (by rfl) hc_HIGHEST_BYTE ⟨_,rfl⟩ ⋯) (@aB _)))) ⋯ ⋯ ⋯ ⋯)) ⋯ ⋯ ⋯ ⋯) (@aB _)) ⋯ ⋯ ⋯ ⋯)))),?_⟩
  refine⟨_,rfl,_,_,_,_,rfl,hd.ty,vG d,_,rfl,?_⟩
  cases d with
  | tuple ds=>
   refine aT ?_
   have hd':=hd
   simp only[Den]at hd'
   obtain⟨a,xs,rfl,ha,hds⟩:=hd'
   have hl:=hds.length
   refine⟨_,rfl,a,rfl,⟨xs,SqT.of ha⟩,?_⟩
   refine fE (BM (K:=K) (SqT.of ha)) (by rw[hl]; exact hz ds rfl) (fun i y _=>∃ d,ds[i]? = some d/\y = .bl (bH 0 255 d)) (fun _ _ _ _ _ h=>h) (fun σ=>σ.length=1) ?z0 ?_ ?_
   case z0=>rfl
   ·intro i x σc H3 hi hσ s3 hx Q' hQ'
    obtain⟨d,hdi,hdx⟩:=hds.get hx
    match σc,hσ with
    | [z],_=>
     refine⟨_,rfl,x,d,0,255,rfl,hdx.same s3,?_⟩
     exact hQ' _ _ _ rfl (aF.refl _) ⟨d,hdi,rfl⟩
   ·intro D ys H' hD s' hD' hlen hR
    have ey:ys=(ds.map (bH 0 255)).map V.bl:=by
     apply List.ext_getElem?
     intro i
     cases e:ys[i]? with
     | none=>
      have:ys.length<=i:=List.getElem?_eq_none_iff.mp e
      rw[List.getElem?_eq_none (by rw[List.length_map,List.length_map]; omega)]
     | some y=>
      obtain⟨d,h1,h2⟩:=hR i y e
      rw[List.getElem?_map,List.getElem?_map,h1,h2]
      rfl
    refine⟨D,ds.map (bH 0 255),rfl,SqL.of (by rw[hD',ey]),?_⟩
    have:=q H' s'
    simp only[cI]at this
    rw[List.all_map]
    exact this
  | none=>exact aV (q H (aF.refl H))
  | bool x=>exact aV (q H (aF.refl H))
  | int x=>exact aV (q H (aF.refl H))
  | str x=>exact aV (q H (aF.refl H))
  | list x=>exact aV (q H (aF.refl H))
  | dict x=>exact aV (q H (aF.refl H))
theorem wP:FnScope ["kind","body"] ["kind","body"] (aH kT):=‹0›
theorem xM {f:Addr} {fd:FuncData} (F:Fun K "fits_kind" "fits_kind" kT f fd) (T:TxtR K mg a_KINDS C_BadRow):‹7› 1 f fd ["kind","body"] jJ:=by
 obtain⟨_,hc_LONGEST_BODY⟩:=T.c_LONGEST_BODY
 obtain⟨_,hc_HIGHEST_TIMES⟩:=T.c_HIGHEST_TIMES
 obtain⟨_,hc_LARGEST_DEAL⟩:=T.c_LARGEST_DEAL
 refine F.okX wP (fun vs H Q E h=>?_) (fun cdv A outer s H vs Q E hr h=>?_)
 ·obtain⟨k,a,ns,rfl,_⟩:=h
  rfl
 ·obtain⟨k,a,ns,rfl,ha,q⟩:=h
  refine⟨_,@aA _ _ _ _ _ (@a9 _ _ _ _ _ _ _ _ (@PW.pt _ _ _ (@kC _ _ _ _ _ _ _ ‹42› (@hW _ _ _ _ ‹42›))) (@aC _ _ _ (@bA _ _ _ _ (@jZ _ _ _ _ _ _ _ _ i6 ‹31› (@bX _ _ (.int 60) _ _ (by rfl) hc_LONGEST_BODY ⟨_,rfl⟩ ⋯) (aX _)))) (@aP _)) (@aA _ _ _ _ _ (@a9 _ _ _ _ _ _ _ _ ‹42› (@aC _ _ _ (@bA _ _ _ _ (@sM _ _ _ _ _ _ _ (@sK _ _ _ _ _ _ _ _ _ _ _ _ i6 i6 ‹21› ‹31› (@bO _ _ _ _ _ _ _ _ cZ ‹21› (@bX _ _ (.int 60) _ _ (by rfl) hc_LONGEST_BODY ⟨_,rfl⟩ ⋯)) ⋯) (@xC _ _ _ _ _ (@jZ _ _ _ _ _ _ _ _ i6 ‹29› (@bX _ _ (.int 9) _ _ (by rfl) hc_HIGHEST_TIMES ⟨_,rfl⟩ ⋯) (aX _)))))) (@aP _)) (@aA _ _ _ _ _ (@a9 _ _ _ _ _ _ _ _ ‹42› (@aC _ _ _ (@bA _ _ _ _ (@sM _ _ _ _ _ _ _ (@jZ _ _ _ _ _ _ _ _ lA ‹31› ‹21› (aX _)) (@xC _ _ _ _ _ (@sK _ _ _ _ _ _ _ _ _ _ _ _ i6 i6 ‹21› ‹29› (@bX _ _ (.int 9) _ _ (by rfl) hc_LARGEST_DEAL ⟨_,rfl⟩ ⋯) ⋯))))) (@aP _)) (@aC _ _ _ (@bA _ _ _ _ (@jZ _ _ _ _ _ _ _ _ lA ‹31› ‹21› (aX _)))))),?_⟩
  have hsq:SqT K H a (ns.map V.int):=SqT.of ha
  have at0:∀ x r,ns=x::r->atI (ns.map V.int) 0=some (V.int x):=fun x r e=>by
   subst e
   exact bP (j:=0) rfl
  have ln:((ns.map V.int).length:Int)=(ns.length:Int):=by rw[List.length_map]
  unfold gG at q
  refine⟨_,rfl,rfl,_,rfl,?_⟩
  by_cases h1:k = "put"
  ·rw[if_pos (.inl h1)]at q
   rw[j7 h1]
   refine aT (aT ⟨_,rfl,a,_,rfl,.inr hsq,_,_,rfl,rfl,?_⟩)
   have e:decide (((ns.map V.int).length:Int)<=60)=decide (ns.length<=60):=by
    apply decide_eq_decide.mpr
    rw[ln]
    omega
   show Q (.bl (decide (((ns.map V.int).length:Int)<=60))) H
   rw[e]
   exact q
  rw[lW h1]
  refine aV ⟨_,rfl,rfl,_,rfl,?_⟩
  by_cases h2:k = "part"
  ·rw[if_pos (.inr h2)]at q
   rw[j7 h2]
   refine aT ⟨_,rfl,a,_,rfl,.inr hsq,_,_,rfl,rfl,?_⟩
   have e:decide (((ns.map V.int).length:Int)<=60)=decide (ns.length<=60):=by
    apply decide_eq_decide.mpr
    rw[ln]
    omega
   show Q (.bl (decide (((ns.map V.int).length:Int)<=60))) H
   rw[e]
   exact q
  rw[lW h2]
  rw[if_neg (by rintro (z | z); exact h1 z; exact h2 z)]at q
  refine aV ⟨_,rfl,rfl,_,rfl,?_⟩
  by_cases h3:k = "carried"
  ·rw[if_pos h3]at q
   rw[j7 h3]
   refine aT ⟨_,rfl,a,_,rfl,.inr hsq,_,_,rfl,rfl,_,rfl,?_⟩
   by_cases l1:1<=ns.length
   ·rw[if_pos (decide_eq_true (by rw[ln]; omega))]
    rw[decide_eq_true l1,Bool.true_and]at q
    refine⟨_,_,rfl,rfl,_,_,rfl,rfl,_,rfl,?_⟩
    by_cases l2:ns.length<=61
    ·rw[if_pos (decide_eq_true (by rw[ln]; omega))]
     rw[decide_eq_true l2,Bool.true_and]at q
     match ns,l1,at0,q,hsq with
     | x::r,_,at0,q,hsq=>
      exact⟨_,rfl,a,_,_,_,rfl,rfl,hsq,at0 x r rfl,_,_,rfl,rfl,q⟩
    ·rw[if_neg (by rw[decide_eq_true_eq,ln]; omega)]
     rw[decide_eq_false l2,Bool.false_and]at q
     exact q
   ·rw[if_neg (by rw[decide_eq_true_eq,ln]; omega)]
    rw[decide_eq_false l1,Bool.false_and,Bool.false_and]at q
    exact⟨_,rfl,aV q⟩
  rw[lW h3]
  rw[if_neg h3]at q
  refine aV ⟨_,rfl,rfl,_,rfl,?_⟩
  by_cases h4:k = "deal"
  ·rw[if_pos h4]at q
   rw[j7 h4]
   refine aT ⟨_,rfl,a,_,rfl,.inr hsq,rfl,_,rfl,?_⟩
   match ns,at0,q,hsq with
   | [],at0,q,hsq=>exact aV q
   | [x],at0,q,hsq=>
    refine aT ⟨_,rfl,a,_,_,_,rfl,rfl,hsq,at0 x [] rfl,_,_,rfl,rfl,_,rfl,?_⟩
    have q:Q (.bl (decide (1<=x) && decide (x<=9))) H:=q
    by_cases l1:1<=x
    ·rw[if_pos (decide_eq_true l1)]
     rw[decide_eq_true l1,Bool.true_and]at q
     exact⟨_,_,rfl,rfl,q⟩
    ·rw[if_neg (by simpa using l1)]
     rw[decide_eq_false l1,Bool.false_and]at q
     exact q
   | x::y::r,at0,q,hsq=>
    have e:decide ((((x::y::r).length:Nat):Int)=1)=false:=decide_eq_false (by simp; omega)
    have e2:decide ((x::y::r).length=1)=false:=decide_eq_false (by simp)
    rw[e2,Bool.false_and,Bool.false_and]at q
    rw[lY (by simp; omega)]
    exact aV q
  rw[lW h4]
  rw[if_neg h4]at q
  refine aV ⟨_,rfl,a,_,rfl,.inr hsq,rfl,?_⟩
  show Q (.bl (decide (V.int ((ns.map V.int).length:Int)=V.int 0))) H
  have e:decide (V.int ((ns.map V.int).length:Int)=V.int 0)=decide (ns.length=0):=by
   apply decide_eq_decide.mpr
   rw[ln]
   constructor
   ·intro z
    have:=V.int.inj z
    omega
   ·intro z
    rw[z]
    rfl
  rw[e]
  exact q
noncomputable def bD:PyData->List Int
 | .tuple ds=>ds.map fun d=>match d with | .int i=>i | _=>0
 | _=>[]
noncomputable def aZ:PyData->Bool
 | .tuple [.str k,n,b]=>cD.contains k && (bH 0 999999 n && (cI b && gG k (bD b)))
 | _=>false
theorem GT {α : Type} {l:List α} (h:l.length=3):∃ a b c,l=[a,b,c]:=by
 match l,h with
 | [a,b,c],_=>exact⟨a,b,c,rfl⟩
theorem vN {ds:List PyData} (h:ds.length≠3):aZ (.tuple ds)=false:=by
 match ds,h with
 | [],_=>rfl
 | [a],_=>cases a <;> rfl
 | [a,b],_=>cases a <;> rfl
 | [_,_,_],h=>exact absurd rfl h
 | a::b::c::d::r,_=>cases a <;> rfl
theorem Cb (k:Str) (ks:List Str):inV (.str k) (ks.map V.str)=ks.contains k:=by
 unfold inV
 rw[List.any_map,List.contains_eq_any_beq]
 congr 1
 funext y
 show (y == k)=(k == y)
 exact Bool.beq_comm
theorem Ci (ks:List Str):(ks.map V.str).all mD=true:=by
 rw[List.all_map]
 exact List.all_eq_true.mpr fun _ _=>rfl
theorem lG {H:Hp}:∀ {bs:List PyData} {xs:List V},aU H bs xs->bs.all (bH 0 255)=true->xs=(bD (.tuple bs)).map V.int
 | [],xs,h,_=>by
  simp only[aU]at h
  subst h
  rfl
 | d::bs,xs,h,e=>by
  simp only[aU]at h
  obtain⟨x,r,e1,h1,h2⟩:=h
  rw[List.all_cons,Bool.and_eq_true]at e
  have e2:=lG h2 e.2
  cases d with
  | int i=>
   simp only[Den]at h1
   rw[e1,h1,e2]
   rfl
  | _=>exact absurd e.1 (by simp [bH])
noncomputable def iV:Sp:=fun vs H Q _=>∃ v d,vs=[v]/\Den H d v/\(∀ k n bs,d = .tuple [k,n,.tuple bs]->bs.length<=sizeLine)/\∀ H',aF H H'->Q (.bl (aZ d)) H'
theorem u6:FnScope ["thing","kind"] ["thing"] (aH sA):=‹0›
set_option maxHeartbeats 1000000 in
theorem CL {f:Addr} {fd:FuncData} (F:Fun K "is_row" "is_row" sA f fd) (T:TxtR K mg a_KINDS C_BadRow) (c_is_number:‹4›)
  (c_is_bytes:‹8› "is_bytes" 2 ["thing"] fX) (c_fits_kind:‹8› "fits_kind" 1 ["kind","body"] jJ):‹7› 3 f fd ["thing"] iV:=by
 obtain⟨_,hc_HIGHEST_NUMBER⟩:=T.c_HIGHEST_NUMBER
 refine F.okX u6 (fun vs H Q E h=>?_) (fun cdv A outer s H vs Q E hr h=>?_)
 ·obtain⟨v,d,rfl,_⟩:=h
  rfl
 ·obtain⟨v,d,rfl,hd,hz,q⟩:=h
  refine⟨_,@aA _ _ _ _ _ (@a9 _ _ _ _ _ _ _ _ (@PW.pt _ _ _ (@kC _ _ _ _ _ _ _ (@cF _ _ _ _ (@cY _ _ _ (@bC _ _ _ _ _ _ _ _ _ (gT K) (by rfl) T.n_isinstance dS (@aD _ _ _ _ _ _ ‹17› (@aD _ _ _ _ _ _ (@lR _ _ (.ty "tuple") _ _ (by rfl) T.n_tuple tV (by rfl) ⋯ ⋯) (@aB _))) ⋯ ⋯ ⋯ ⋯) ⋯)) (@hW _ _ _ _ (@aS _ _ _ _ _ _ _ _ kD ‹32› ‹21› (aX _))))) ‹24› (@aP _)) (@aA _ _ _ _ _ (@a8 _ _ (1) _ _ _ _ u6.nd (by rfl) (by first | exact Or.inl (by rfl) | exact Or.inr (by rfl)) ‹30› ⋯ ⋯) (@aA _ _ _ _ _ (@a9 _ _ _ _ _ _ _ _ (@PW.pt _ _ _ (@kC _ _ _ _ _ _ _ (@cF _ _ _ _ (@cY _ _ _ (@bC _ _ _ _ _ _ _ _ _ (gT K) (by rfl) T.n_isinstance dS (@aD _ _ _ _ _ _ ‹18› (@aD _ _ _ _ _ _ (@lR _ _ (.ty "str") _ _ (by rfl) T.n_str EW (by rfl) ⋯ ⋯) (@aB _))) ⋯ ⋯ ⋯ ⋯) ⋯)) (@hW _ _ _ _ (@aS _ _ _ _ _ _ _ _ (vD K) ‹18› (@bX _ _ (.ref a_KINDS) _ _ (by rfl) T.c_KINDS (by rfl) ⋯) (by rfl))))) ‹24› (@aP _)) (@aC _ _ _ (@bA _ _ _ _ (@sM _ _ _ _ _ _ _ (@bB _ _ _ _ _ _ _ _ _ _ _ c_is_number ‹12› aW (@aM _ _ _ _ _ _ _ ‹30› (@aO _ _ _ _ _ _ _ ‹21› (@aD _ _ _ _ _ _ (@bX _ _ (.int 999999) _ _ (by rfl) hc_HIGHEST_NUMBER ⟨_,rfl⟩ ⋯) (@aB _)))) ⋯ ⋯ ⋯ ⋯) (@sM _ _ _ _ _ _ _ (@bB _ _ _ _ _ _ _ _ _ _ _ c_is_bytes ‹12› aW (@aM _ _ _ _ _ _ _ ‹30› (@aB _)) ⋯ ⋯ ⋯ ⋯) (@xC _ _ _ _ _ (@bB _ _ _ _ _ _ _ _ _ _ _ c_fits_kind ‹12› aW (@aD _ _ _ _ _ _ ‹18› (@aM _ _ _ _ _ _ _ ‹30› (@aB _))) ⋯ ⋯ ⋯ ⋯)))))))),?_⟩
  refine⟨_,rfl,_,_,_,_,rfl,hd.ty,vG d,_,rfl,?_⟩
  cases d with
  | none=>exact aT (aT (q H (aF.refl H)))
  | bool x=>exact aT (aT (q H (aF.refl H)))
  | int x=>exact aT (aT (q H (aF.refl H)))
  | str x=>exact aT (aT (q H (aF.refl H)))
  | list x=>exact aT (aT (q H (aF.refl H)))
  | dict x=>exact aT (aT (q H (aF.refl H)))
  | tuple ds=>
   have hd':=hd
   simp only[Den]at hd'
   obtain⟨a,xs,rfl,ha,hds⟩:=hd'
   have hl:=hds.length
   by_cases h3:ds.length=3
   ·obtain⟨d0,d1,d2,rfl⟩:=GT h3
    obtain⟨x0,x1,x2,rfl⟩:=GT (hl.trans h3)
    ·refine aV ⟨_,rfl,a,_,rfl,.inr (SqT.of ha),rfl,_,rfl,?_⟩
     refine aV ?_
     simp only[aU]at hds
     obtain⟨y0,r0,e0,k0,y1,r1,e1,k1,y2,r2,e2,k2,e3⟩:=hds
     subst e3
     cases e2
     cases e1
     cases e0
     have sq:SqT K H a [x0,x1,x2]:=SqT.of ha
     refine⟨_,rfl,a,_,_,_,rfl,rfl,sq,bP (j:=0) rfl,?_⟩
     refine⟨_,rfl,_,_,_,_,rfl,k0.ty,BY d0,_,rfl,?_⟩
     cases d0 with
     | none=>exact aT (aT (q H (aF.refl H)))
     | bool x=>exact aT (aT (q H (aF.refl H)))
     | int x=>exact aT (aT (q H (aF.refl H)))
     | tuple x=>exact aT (aT (q H (aF.refl H)))
     | list x=>exact aT (aT (q H (aF.refl H)))
     | dict x=>exact aT (aT (q H (aF.refl H)))
     | str k=>
      simp only[Den]at k0
      subst k0
      refine aV ⟨_,rfl,a_KINDS,_,rfl,.inr (T.k_KINDS H),rfl,Ci cD,_,rfl,?_⟩
      rw[if_pos rfl,Cb]
      simp only[aZ]at q
      cases hk:cD.contains k with
      | false=>
       rw[hk]at q
       exact aT (q H (aF.refl H))
      | true=>
       rw[hk]at q
       refine aV ?_
       refine⟨_,rfl,a,_,_,_,rfl,rfl,sq,bP (j:=1) rfl,x1,d1,0,999999,rfl,k1,_,rfl,?_⟩
       cases hn:bH 0 999999 d1 with
       | false=>
        rw[hn]at q
        exact aV (q H (aF.refl H))
       | true=>
        rw[hn]at q
        refine aT ⟨_,rfl,a,_,_,_,rfl,rfl,sq,bP (j:=2) rfl,x2,d2,rfl,k2,fun bs e=>hz _ _ bs (by rw[e]),fun H' s'=>⟨_,rfl,?_⟩⟩
        cases hb:cI d2 with
        | false=>
         rw[hb]at q
         exact aV (q H' s')
        | true=>
         rw[hb]at q
         cases d2 with
         | tuple bs=>
          simp only[Den]at k2
          obtain⟨a2,ys,rfl,ha2,hbs⟩:=k2
          have ei:=lG hbs hb
          subst ei
          refine aT ⟨_,rfl,_,rfl,a,_,_,_,rfl,rfl,s'.seqT sq,bP (j:=2) rfl,k,a2,_,rfl,s' _ _ ha2,q H' s'⟩
         | _=>exact absurd hb (by simp [cI])
   ·have e:(!decide (V.int (xs.length:Int)=V.int 3))=true:=by
     rw[hl,lY (by omega)]
     rfl
    have q':=q H (aF.refl H)
    rw[vN h3]at q'
    refine aV ⟨_,rfl,a,_,rfl,.inr (SqT.of ha),rfl,_,rfl,?_⟩
    rw[e]
    exact aT q'
noncomputable def fF (ns:List Int):Int × Int:=(ns.sum % 256,((List.range ns.length).map fun(i:Nat)=>(1+(i:Int)) * ns.getD i 0).sum % 256)
noncomputable def gK:Sp:=fun vs H Q _=>∃ a ns,vs=[.ref a]/\H a=some (.tup (ns.map V.int))/\ns.length<=1000/\∀ p H',aF H H'->H' p=some (.tup [.int (fF ns).1,.int (fF ns).2])->Q (.ref p) H'
theorem jM:FnScope ["behind","plain","weighed"] ["behind"] (aH kW):=‹0›
set_option maxHeartbeats 1000000 in
theorem xO {f:Addr} {fd:FuncData} (F:Fun K "checks_of" "checks_of" kW f fd) (T:TxtR K mg a_KINDS C_BadRow):‹7› 1 f fd ["behind"] gK:=by
 refine F.okX jM (fun vs H Q E h=>?_) (fun cdv A outer s H vs Q E hr h=>?_)
 ·obtain⟨a,ns,rfl,_⟩:=h
  rfl
 ·obtain⟨a,ns,rfl,ha,hl,q⟩:=h
  refine⟨_,@aA _ _ _ _ _ (@a8 _ _ (1) _ _ _ _ jM.nd (by rfl) (by first | exact Or.inl (by rfl) | exact Or.inr (by rfl)) (@bC _ _ _ _ _ _ _ _ _ (lZ K) (by rfl) T.n_sum yG ‹33› ⋯ ⋯ ⋯ ⋯) ⋯ ⋯) (@aA _ _ _ _ _ (@a8 _ _ (2) _ _ _ _ jM.nd (by rfl) (by first | exact Or.inl (by rfl) | exact Or.inr (by rfl)) (@bC _ _ _ _ _ _ _ _ _ (lZ K) (by rfl) T.n_sum yG (@f9 _ _ _ _ _ _ _ _ (@eP _ _ _ _ _ _ _ _ _ _ _ ["place","one"] [] (by rfl) (@CB _ K _ _ _ _ _ _ _ _ _ _ T.n_enumerate ‹17› ⋯ ⋯ ⋯) (fun C s2 H2 ex=>(@E9 _ K _ _ _ (2) _ (@yZ _ _ _ _ _ (@bW _ _ (0) _ (show List.Nodup (["place","one"]:List Str) by decide +kernel) (by rfl) (Or.inl (by rfl)) ⋯) (@yZ _ _ _ _ _ (@bW _ _ (1) _ (show List.Nodup (["place","one"]:List Str) by decide +kernel) (by rfl) (Or.inl (by rfl)) ⋯) (@E8 _) ⋯) ⋯) ⋯ ⋯ ⋯ ⋯)) ‹26› (fun C s2 H2 ex=>(@bO _ _ _ _ _ _ _ _ pN ‹17› ‹18›)) ⋯ ⋯ ⋯ ⋯) (@aB _)) ⋯ ⋯ ⋯ ⋯) ⋯ ⋯) (@aC _ _ _ (@bA _ _ _ _ (@cG _ _ _ _ _ (@dO _ _ _ _ _ _ _ _ (@bO _ _ _ _ _ _ _ _ j4 ‹18› ‹21›) (@dO _ _ _ _ _ _ _ _ (@bO _ _ _ _ _ _ _ _ j4 ‹22› ‹21›) (@aB _))))))),?_⟩
  have sq:SqT K H a (ns.map V.int):=SqT.of ha
  refine⟨_,rfl,a,ns,rfl,.inr sq,?_⟩
  refine⟨_,rfl,a,_,rfl,sq,?_⟩
  refine fE (C7 (K:=K) 1 sq) (by rw[List.length_map]; exact Nat.le_trans hl (by decide)) (fun i y _=>y = .int ((1+(i:Int)) * ns.getD i 0)) (fun _ _ _ _ _ h=>h) (fun σ=>σ.length=2) ?z0 ?_ ?_
  case z0=>rfl
  ·intro i x σc H3 hi hσ s3 hx Q' hQ'
   obtain⟨p,v,rfl,hp,hv⟩:=hx
   rw[List.length_map]at hi
   rw[List.getElem?_map,List.getElem?_eq_getElem hi]at hv
   cases hv
   match σc,hσ with
   | [z1,z2],_=>
    refine⟨p,_,rfl,SqT.of hp,rfl,_,_,rfl,_,_,rfl,rfl,?_⟩
    refine⟨_,rfl,_,rfl,_,_,rfl,rfl,.inl ⟨by omega,by omega⟩,?_⟩
    refine hQ' _ _ _ rfl (aF.refl _) ?_
    rw[List.getD_eq_getElem?_getD,List.getElem?_eq_getElem hi]
    rfl
  ·intro D ys H' hD s' hD' hlen hR
   have ey:ys=((List.range ns.length).map fun(i:Nat)=>(1+(i:Int)) * ns.getD i 0).map V.int:=by
    apply List.ext_getElem?
    intro i
    rw[List.length_map]at hlen
    cases e:ys[i]? with
    | none=>
     have:ys.length<=i:=List.getElem?_eq_none_iff.mp e
     rw[List.getElem?_eq_none (by rw[List.length_map,List.length_map,List.length_range]; omega)]
    | some y=>
     have hi:i<ns.length:=by
      have:=(List.getElem?_eq_some_iff.mp e).1
      omega
     rw[hR i y e,List.getElem?_map,List.getElem?_map,List.getElem?_range hi]
     rfl
   refine⟨D,_,rfl,.inl (SqL.of (by rw[hD',ey])),?_⟩
   refine⟨_,rfl,_,_,rfl,rfl,(by show (0:Int)<256; decide),_,rfl,_,_,rfl,rfl,(by show (0:Int)<256; decide),(by show 2<=sizeLine; decide),fun p hp=>?_⟩
   exact q p _ (s'.trans (aJ hp)) aE
end
end Qh
end
section
namespace Qh
open PySem L2
section
variable {P:Program} {w:World} {K:PySem.W.Frag} {mg:Str->Option Value} {base:Heap} {a_KINDS C_BadRow:Addr}
noncomputable def fG (k:Str) (n:Int) (ns:List Int):List Int:=[(cD.idxOf k:Int)+1]++[n / 65536,n / 256 % 256,n % 256]++[(ns.length:Int)]++ns
noncomputable def iR (k:Str) (n:Int) (ns:List Int):List Int:=[(fF (fG k n ns)).1,(fF (fG k n ns)).2]++fG k n ns
noncomputable def DE:PyData->List Int
 | .tuple [.str k,.int n,b]=>iR k n (bD b)
 | _=>[]
theorem mY {d:PyData} (h:aZ d=true):∃ k n bs,d = .tuple [.str k,.int n,.tuple bs]/\cD.contains k=true/\0<=n/\n<=999999/\bs.all (bH 0 255)=true/\gG k (bD (.tuple bs))=true:=by
 cases d with
 | tuple ds=>
  by_cases h3:ds.length=3
  ·obtain⟨d0,d1,d2,rfl⟩:=GT h3
   cases d0 with
   | str k=>
    simp only[aZ,Bool.and_eq_true]at h
    obtain⟨h1,h2,h4,h5⟩:=h
    cases d1 with
    | int n=>
     simp only[bH,Bool.and_eq_true,decide_eq_true_eq]at h2
     cases d2 with
     | tuple bs=>exact⟨k,n,bs,rfl,h1,h2.1,h2.2,h4,h5⟩
     | _=>simp [cI]at h4
    | _=>simp [bH]at h2
   | _=>cases h
  ·rw[vN h3]at h
   cases h
 | _=>cases h
theorem Cc {k:Str} (h:cD.contains k=true):cD[cD.idxOf k]? = some k/\∀ i,i<cD.idxOf k->cD[i]? ≠ some k:=by
 have hm:k∈cD:=by simpa using h
 have hl:=List.idxOf_lt_length_of_mem hm
 refine⟨by rw[List.getElem?_eq_getElem hl,List.getElem_idxOf],fun i hi e=>?_⟩
 have:=List.not_of_lt_findIdx (p:=(· == k)) (xs:=cD) (i:=i) hi
 have hi2:i<cD.length:=Nat.lt_trans hi hl
 rw[List.getElem?_eq_getElem hi2]at e
 have e:=Option.some.inj e
 rw[e]at this
 simp at this
theorem tN {k:Str} {ns:List Int} (h:gG k ns=true):ns.length<=61:=by
 unfold gG at h
 split at h
 ·have:=of_decide_eq_true h
  omega
 ·split at h
  ·simp only[Bool.and_eq_true,decide_eq_true_eq]at h
   omega
  ·split at h
   ·simp only[Bool.and_eq_true,decide_eq_true_eq]at h
    omega
   ·have:=of_decide_eq_true h
    omega
end
noncomputable abbrev kP:Stmt:=top 30
section
variable {P:Program} {w:World} {K:PySem.W.Frag} {mg:Str->Option Value} {base:Heap} {a_KINDS C_BadRow:Addr}
noncomputable def eF (C_BadRow:Addr):Sp:=fun vs H Q E=>∃ v d,vs=[v]/\Den H d v/\(∀ k n bs,d = .tuple [k,n,.tuple bs]->bs.length<=sizeLine)/\
 (aZ d=true->∀ p H',aF H H'->H' p=some (.tup ((DE d).map V.int))->Q (.ref p) H')/\(aZ d=false->∀ H',aF H H'->E (.ref C_BadRow) none H')
theorem eZ:FnScope ["row","number","body","figures","behind"] ["row"] (aH kP):=‹0›
set_option maxHeartbeats 1000000 in
theorem xI {f:Addr} {fd:FuncData} (F:Fun K "row_bytes" "row_bytes" kP f fd) (T:TxtR K mg a_KINDS C_BadRow) (c_is_row:‹8› "is_row" 3 ["thing"] iV)
  (c_checks_of:‹8› "checks_of" 1 ["behind"] gK):‹7› 4 f fd ["row"] (eF C_BadRow):=by
 refine F.okX eZ (fun vs H Q E h=>?_) (fun cdv A outer s H vs Q E hr h=>?_)
 ·obtain⟨v,d,rfl,_⟩:=h
  rfl
 ·obtain⟨v,d,rfl,hd,hz,q,qe⟩:=h
  refine⟨_,@aA _ _ _ _ _ (@a9 _ _ _ _ _ _ _ _ (@cF _ _ _ _ (@cY _ _ _ (@bB _ _ _ _ _ _ _ _ _ _ _ c_is_row ‹12› aW ‹33› ⋯ ⋯ ⋯ ⋯) ⋯)) ‹36› (@aP _)) (@aA _ _ _ _ _ (@a8 _ _ (1) _ _ _ _ eZ.nd (by rfl) (by first | exact Or.inl (by rfl) | exact Or.inr (by rfl)) ‹30› ⋯ ⋯) (@aA _ _ _ _ _ (@a8 _ _ (2) _ _ _ _ eZ.nd (by rfl) (by first | exact Or.inl (by rfl) | exact Or.inr (by rfl)) ‹30› ⋯ ⋯) (@aA _ _ _ _ _ (@a8 _ _ (3) _ _ _ _ eZ.nd (by rfl) (by first | exact Or.inl (by rfl) | exact Or.inr (by rfl)) (@cG _ _ _ _ _ (@dO _ _ _ _ _ _ _ _ (@bO _ _ _ _ _ _ _ _ xH ‹18› ‹21›) (@dO _ _ _ _ _ _ _ _ (@bO _ _ _ _ _ _ _ _ j4 (@bO _ _ _ _ _ _ _ _ xH ‹18› ‹21›) ‹21›) (@dO _ _ _ _ _ _ _ _ (@bO _ _ _ _ _ _ _ _ j4 ‹18› ‹21›) (@aB _))))) ⋯ ⋯) (@aA _ _ _ _ _ (@a8 _ _ (4) _ _ _ _ eZ.nd (by rfl) (by first | exact Or.inl (by rfl) | exact Or.inr (by rfl)) (@bO _ _ _ _ _ _ _ _ nV (@bO _ _ _ _ _ _ _ _ nV (@bO _ _ _ _ _ _ _ _ nV (@cG _ _ _ _ _ (@dO _ _ _ _ _ _ _ _ (@bO _ _ _ _ _ _ _ _ cZ (@GL _ _ _ _ _ _ _ _ _ _ _ K PySem.F.slot_tuple_index PySem.F.type_tuple_index (CO K) (@bX _ _ (.ref a_KINDS) _ _ (by rfl) T.c_KINDS (by rfl) ⋯) (@aM _ _ _ _ _ _ _ ‹30› (@aB _)) ⋯ ⋯ ⋯ ⋯ ⋯ ⋯) ‹21›) (@aB _))) ‹23›) (@cG _ _ _ _ _ (@cJ _ _ _ _ _ _ _ _ (@bC _ _ _ _ _ _ _ _ _ (dR K) (by rfl) T.n_len iC ‹41› ⋯ ⋯ ⋯ ⋯) (@aB _)))) ‹22›) ⋯ ⋯) (@aC _ _ _ (@bA _ _ _ _ (@bO _ _ _ _ _ _ _ _ nV (@bB _ _ _ _ _ _ _ _ _ _ _ c_checks_of ‹12› aW (@aD _ _ _ _ _ _ ‹25› (@aB _)) ⋯ ⋯ ⋯ ⋯) ‹25›))))))),?_⟩
  refine⟨_,rfl,v,d,rfl,hd,hz,fun H1 s1=>⟨_,rfl,?_⟩⟩
  cases hb:aZ d with
  | false=>exact aT ⟨(by show 1<=sizeLine; decide),qe hb H1 s1⟩
  | true=>
   refine aV ?_
   obtain⟨k,n,bs,rfl,hk,n0,n9,hbs,hf⟩:=mY hb
   have hd1:=hd.same s1
   simp only[Den,aU]at hd1
   obtain⟨a,xs,rfl,ha,y0,r0,e0,k0,y1,r1,e1,k1,y2,r2,e2,⟨a2,ys,k2,ha2,h2⟩,e3⟩:=hd1
   subst e3 k0 k1 k2
   subst e2
   subst e1
   subst e0
   have ei:=lG h2 hbs
   subst ei
   have fl:=tN hf
   have sq:SqT K H1 a [.str k,.int n,.ref a2]:=SqT.of ha
   obtain⟨i1,i2⟩:=Cc hk
   refine⟨_,rfl,a,_,_,_,rfl,rfl,sq,bP (j:=1) rfl,?_⟩
   refine⟨_,rfl,a,_,_,_,rfl,rfl,sq,bP (j:=2) rfl,?_⟩
   refine⟨_,rfl,_,_,rfl,rfl,⟨by decide,by decide⟩,_,rfl,_,_,rfl,rfl,⟨by decide,by decide⟩,_,_,rfl,rfl,(by show (0:Int)<256; decide),_,rfl,_,_,rfl,rfl,(by show (0:Int)<256; decide),(by show 3<=sizeLine; decide),fun p3 hp3=>?_⟩
   have S2:=aJ (o:=.tup [.int (n / 65536),.int (n / 256 % 256),.int (n % 256)]) hp3
   refine⟨⟨a_KINDS,rfl,.inr T.l_KINDS⟩,_,rfl,a,_,_,_,rfl,rfl,S2.seqT sq,bP (j:=0) rfl,a_KINDS,cD,k,cD.idxOf k,rfl,rfl,T.k_KINDS _,i1,i2,?_⟩
   refine⟨_,_,rfl,rfl,(by show 1<=sizeLine; decide),fun p4 hp4=>?_⟩
   have S3:=aJ (o:=.tup [V.int ((cD.idxOf k:Int)+1)]) hp4
   refine⟨_,rfl,p4,p3,_,_,rfl,rfl,aE,S3 _ _ aE,(by show 1+3<=sizeLine; decide),fun p5 H5 S5 g5=>?_⟩
   have g2:H5 a2=some (.tup ((bD (.tuple bs)).map V.int)):=S5 _ _ (S3 _ _ (S2 _ _ ha2))
   refine⟨_,rfl,a2,_,rfl,.inr (SqT.of g2),(by show 1<=sizeLine; decide),fun p6 hp6=>?_⟩
   have S6:=aJ (o:=.tup [V.int (((bD (.tuple bs)).map V.int).length:Int)]) hp6
   refine⟨p5,p6,_,_,rfl,rfl,S6 _ _ g5,aE,(by show 4+1<=sizeLine; decide),fun p7 H7 S7 g7=>?_⟩
   have zl:(100:Nat)<=sizeLine:=by decide
   refine⟨_,rfl,p7,a2,_,_,rfl,rfl,g7,S7 _ _ (S6 _ _ g2),?_,fun p8 H8 S8 g8=>?_⟩
   ·show 5+((bD (.tuple bs)).map V.int).length<=sizeLine
    rw[List.length_map]
    omega
   have eb:([V.int ((cD.idxOf k:Int)+1)]++[V.int (n / 65536),V.int (n / 256 % 256),V.int (n % 256)]++[V.int (((bD (.tuple bs)).map V.int).length:Int)]++(bD (.tuple bs)).map V.int)=(fG k n (bD (.tuple bs))).map V.int:=by
    unfold fG
    rw[List.length_map]
    simp
   have g8':H8 p8=some (.tup ((fG k n (bD (.tuple bs))).map V.int)):=by rw[<- eb]; exact g8
   have lb:(fG k n (bD (.tuple bs))).length=5+(bD (.tuple bs)).length:=by
    unfold fG
    simp
    omega
   refine⟨_,rfl,p8,_,rfl,g8',by omega,fun p9 H9 S9 g9=>?_⟩
   refine⟨_,rfl,p9,p8,_,_,rfl,rfl,g9,S9 _ _ g8',?_,fun p10 H10 S10 g10=>?_⟩
   ·show 2+((fG k n (bD (.tuple bs))).map V.int).length<=sizeLine
    rw[List.length_map]
    omega
   refine q hb p10 H10 (s1.trans (S2.trans (S3.trans (S5.trans (S6.trans (S7.trans (S8.trans (S9.trans S10)))))))) ?_
   rw[g10]
   simp only[DE,iR,List.map_append]
   rfl
end
end Qh
end
section
namespace Qh
open PySem L2
theorem eN (ns:List Int):bD (.tuple (ns.map .int))=ns:=by
 show (ns.map PyData.int).map _=ns
 rw[List.map_map]
 exact List.map_id _
theorem qZ {ns:List Int} (h:∀ b∈ns,0<=b/\b<=255):cI (.tuple (ns.map .int))=true:=by
 show (ns.map PyData.int).all (bH 0 255)=true
 rw[List.all_map,List.all_eq_true]
 intro b hb
 have:=h b hb
 show (decide (0<=b) && decide (b<=255))=true
 rw[decide_eq_true this.1,decide_eq_true this.2]
 rfl
theorem bE {n:St->Hp->Prop} {D:Ends} {σ : St} {H:Hp} (e:D.nx=n) (h:n σ H):C4 D σ H:=by
 subst e
 exact h
theorem cC {n:Nat} (h:n<=100:=by exact Nat.le_of_ble_eq_true rfl):n<=sizeLine:=Nat.le_trans h (by decide)
noncomputable def mC (ns:List Int):Option PyData:=
 if ns.take 2=[(fF (ns.drop 2)).1,(fF (ns.drop 2)).2] then
  if 1<=ns.getD 2 0/\ns.getD 2 0<=8 then
   let d:PyData:=.tuple [.str (cD.getD (ns.getD 2 0 - 1).toNat "put"),.int (ns.getD 3 0 * 65536+ns.getD 4 0 * 256+ns.getD 5 0),.tuple ((ns.drop 7).map .int)]
   if aZ d=true then some d else none
  else none
 else none
noncomputable def tQ (ns:List Int):Option Nat:=if ns.length<7 then none else if 7+(ns.getD 6 0).toNat<=ns.length then some (7+(ns.getD 6 0).toNat) else none
noncomputable def dN:Nat->List Int->Option (List PyData × Nat)
 | 0,_=>none
 | f+1,ns=>match tQ ns with
  | none=>some ([],ns.length)
  | some e=>match mC (ns.take e) with
   | none=>none
   | some d=>(dN f (ns.drop e)).map fun r=>(d::r.1,r.2)
theorem Bd {ns:List Int} {e:Nat} (h:tQ ns=some e):7<=e/\e<=ns.length:=by
 unfold tQ at h
 split at h
 ·cases h
 ·split at h
  ·have:=Option.some.inj h
   omega
  ·cases h
theorem vA {ns:List Int} {d:PyData} (h:mC ns=some d):l5 d=true:=by
 have tl:∀ l:List Int,eK (l.map PyData.int)=true:=by
  intro l
  induction l with
  | nil=>rfl
  | cons x l ih=>exact ih
 unfold mC at h
 split at h
 ·split at h
  ·dsimp only at h
   split at h
   ·have e:=Option.some.inj h
    rw[<- e]
    simp only[l5,eK,Bool.true_and,Bool.and_true]
    exact tl _
   ·cases h
  ·cases h
 ·cases h
theorem dM (k:Str) (n:Int) (ns:List Int):(iR k n ns).length=7+ns.length:=by
 unfold iR fG
 simp
 omega
noncomputable abbrev o5:Stmt:=top 31
noncomputable abbrev mR:Stmt:=top 32
noncomputable abbrev o4:Stmt:=top 33
structure TxtB (K:PySem.W.Frag) (mg:Str->Option Value) (a_KINDS C_BadRow C_Broken:Addr):Prop extends TxtR K mg a_KINDS C_BadRow where
 n_list:mg "list" = none
 c_CHECKS_SIZE:∃ t,mg "CHECKS_SIZE" = some (.int 2 t)
 c_HEAD_SIZE:∃ t,mg "HEAD_SIZE" = some (.int 7 t)
 x_Broken:cW K C_Broken=true
 m_Broken:mg "Broken" = some (.ref C_Broken)
noncomputable def Gj (st:Nat):Option Nat->V
 | none=>.non
 | some e=>.int ((st+e:Nat):Int)
noncomputable def fV (ns:List Int):Prop:=∀ b∈ns,0<=b/\b<=255
noncomputable def mF:Sp:=fun vs H Q _=>∃ (a:Addr) (ns:List Int) (st:Nat),vs=[.ref a,.int (st:Int)]/\H a=some (.tup (ns.map V.int))/\fV ns/\st<=ns.length/\Q (Gj st (tQ (ns.drop st))) H
noncomputable def kJ (C_Broken:Addr):Sp:=fun vs H Q E=>∃ (a:Addr) (ns:List Int),vs=[.ref a]/\H a=some (.tup (ns.map V.int))/\7<=ns.length/\ns.length<=300/\
 (∀ d,mC ns=some d->∀ p H',aF H H'->Den H' d (.ref p)->Q (.ref p) H')/\(mC ns=none->∀ H',aF H H'->E (.ref C_Broken) none H')
theorem Fc {xs:List V} {lo hi:Nat} (h1:lo<=hi) (h2:hi<=xs.length):fN xs (some (lo:Int)) (some (hi:Int))=(xs.drop lo).take (hi - lo):=by
 unfold fN
 rw[HT.iF,HT.iF,Nat.min_eq_left (show lo<=xs.length by omega),Nat.min_eq_left h2]
theorem zZ {xs:List V} {lo:Nat} (h:lo<=xs.length):fN xs (some (lo:Int)) none=xs.drop lo:=by
 unfold fN
 rw[HT.iF,HT.nP,Nat.min_eq_left h,List.take_of_length_le (by rw[List.length_drop]; omega)]
theorem BC {xs:List V} {hi:Nat} (h:hi<=xs.length):fN xs none (some (hi:Int))=xs.take hi:=by
 unfold fN
 rw[HT.iF,HT.nP,Nat.min_eq_left h,List.drop_zero,Nat.sub_zero]
theorem Du {i:Int} (h0:0<=i) (h:i<8):atI (cD.map V.str) i=some (.str (cD.getD i.toNat "put")):=by
 have k1:i.toNat<cD.length:=by show _<8; omega
 refine bY h0 ?_
 rw[List.getElem?_map,List.getD_eq_getElem?_getD,List.getElem?_eq_getElem k1]
 rfl
theorem EA {ns:List Int} {i:Nat} (h:i<ns.length):ns[i]? = some (ns.getD i 0):=by
 rw[List.getD_eq_getElem?_getD,List.getElem?_eq_getElem h]
 rfl
theorem Ef {ns:List Int} {i:Nat} (h:i<ns.length):(ns.map V.int)[i]? = some (.int (ns.getD i 0)):=by
 rw[List.getElem?_map,EA h]
 rfl
theorem zJ {ns:List Int} {i:Nat} (h:i<ns.length):ns.getD i 0∈ns:=by
 rw[List.getD_eq_getElem?_getD,List.getElem?_eq_getElem h]
 exact List.getElem_mem h
theorem pP (ns:List Int) (st i:Nat):(ns.drop st).getD i 0=ns.getD (st+i) 0:=by
 rw[List.getD_eq_getElem?_getD,List.getD_eq_getElem?_getD,List.getElem?_drop]
section
variable {P:Program} {w:World} {K:PySem.W.Frag} {mg:Str->Option Value} {base:Heap} {a_KINDS C_BadRow C_Broken:Addr}
theorem rP:FnScope ["some","start","end"] ["some","start"] (aH o5):=‹0›
theorem Ai {f:Addr} {fd:FuncData} (F:Fun K "row_end" "row_end" o5 f fd) (T:TxtB K mg a_KINDS C_BadRow C_Broken):‹7› 1 f fd ["some","start"] mF:=by
 obtain⟨_,hc_HEAD_SIZE⟩:=T.c_HEAD_SIZE
 refine F.okX rP (fun vs H Q E h=>?_) (fun cdv A outer s H vs Q E hr h=>?_)
 ·obtain⟨a,ns,st,rfl,_⟩:=h
  rfl
 ·obtain⟨a,ns,st,rfl,ha,hb,hst,q⟩:=h
  refine⟨_,@aA _ _ _ _ _ (@a9 _ _ _ _ _ _ _ _ (@aS _ _ _ _ _ _ _ _ vF ‹38› ‹32› (aX _)) (@aC _ _ _ (@bA _ _ _ _ (@mW _ _ _))) (@aP _)) (@aA _ _ _ _ _ (@a8 _ _ (2) _ _ _ _ rP.nd (by rfl) (by first | exact Or.inl (by rfl) | exact Or.inr (by rfl)) (@bO _ _ _ _ _ _ _ _ cZ ‹38› (@c8 _ _ _ _ _ _ _ (cQ K) ‹17› (@bO _ _ _ _ _ _ _ _ pM ‹38› ‹21›) (fun _ _=>rfl))) ⋯ ⋯) (@aC _ _ _ (@bA _ _ _ _ (@Db _ _ _ _ _ _ _ _ (@aS _ _ _ _ _ _ _ _ i6 ‹22› ‹32› (aX _)) ‹22› (@mW _ _ _))))),?_⟩
  have sq:SqT K H a (ns.map V.int):=SqT.of ha
  refine⟨_,rfl,_,_,rfl,rfl,_,rfl,a,_,rfl,.inr sq,_,_,rfl,rfl,_,rfl,?_⟩
  rw[List.length_map]
  show if decide ((ns.length:Int)<(st:Int)+7)=true then _ else _
  unfold tQ at q
  rw[List.length_drop,pP]at q
  by_cases h1:ns.length - st<7
  ·rw[if_pos h1]at q
   rw[if_pos (decide_eq_true (by omega))]
   exact q
  ·rw[if_neg h1]at q
   rw[if_neg (by rw[decide_eq_true_eq]; omega)]
   have h6:st+6<ns.length:=by omega
   obtain⟨b0,b9⟩:=hb _ (zJ h6)
   have e6:((st:Int)+7 - 1)=((st+6:Nat):Int):=by omega
   refine⟨_,rfl,_,_,rfl,rfl,_,rfl,_,rfl,_,_,rfl,rfl,_,_,rfl,rfl,a,_,_,.int (ns.getD (st+6) 0),rfl,rfl,sq,?_,_,_,rfl,rfl,?_⟩
   ·show atI _ ((st:Int)+7 - 1)=_
    rw[e6]
    exact bP (Ef h6)
   refine⟨_,rfl,_,rfl,a,_,rfl,.inr sq,_,_,rfl,rfl,_,rfl,?_⟩
   rw[List.length_map]
   show if decide ((st:Int)+7+ns.getD (st+6) 0<=(ns.length:Int))=true then _ else _
   by_cases h2:7+(ns.getD (st+6) 0).toNat<=ns.length - st
   ·rw[if_pos h2]at q
    rw[if_pos (decide_eq_true (by omega))]
    refine⟨_,rfl,?_⟩
    have ee:((st+(7+(ns.getD (st+6) 0).toNat):Nat):Int)=(st:Int)+7+ns.getD (st+6) 0:=by omega
    have q:Q (.int ((st+(7+(ns.getD (st+6) 0).toNat):Nat):Int)) H:=q
    rw[ee]at q
    exact q
   ·rw[if_neg h2]at q
    rw[if_neg (by rw[decide_eq_true_eq]; omega)]
    exact q
theorem iD:FnScope ["whole","behind","number","row"] ["whole"] (aH mR):=‹0›
set_option maxHeartbeats 1000000 in
theorem y4 {f:Addr} {fd:FuncData} (F:Fun K "row_from" "row_from" mR f fd) (T:TxtB K mg a_KINDS C_BadRow C_Broken) (c_is_row:‹8› "is_row" 3 ["thing"] iV)
  (c_checks_of:‹8› "checks_of" 1 ["behind"] gK):‹7› 4 f fd ["whole"] (kJ C_Broken):=by
 obtain⟨_,hc_HEAD_SIZE⟩:=T.c_HEAD_SIZE
 obtain⟨_,hc_CHECKS_SIZE⟩:=T.c_CHECKS_SIZE
 refine F.okX iD (fun vs H Q E h=>?_) (fun cdv A outer s H vs Q E hr h=>?_)
 ·obtain⟨a,ns,rfl,_⟩:=h
  rfl
 ·obtain⟨a,ns,rfl,ha,h7,h3,q,qe⟩:=h
  refine⟨_,@aA _ _ _ _ _ (@a8 _ _ (1) _ _ _ _ iD.nd (by rfl) (by first | exact Or.inl (by rfl) | exact Or.inr (by rfl)) (@e9 _ _ _ _ _ _ _ _ _ _ (nK K) ‹17› (@fR _ _ _ (@bX _ _ (.int 2) _ _ (by rfl) hc_CHECKS_SIZE ⟨_,rfl⟩ ⋯)) (@iG _)) ⋯ ⋯) (@aA _ _ _ _ _ (@a9 _ _ _ _ _ _ _ _ (@aS _ _ _ _ _ _ _ _ (xG hr.units) (@e9 _ _ _ _ _ _ _ _ _ _ (nK K) ‹17› (@iG _) (@fR _ _ _ (@bX _ _ (.int 2) _ _ (by rfl) hc_CHECKS_SIZE ⟨_,rfl⟩ ⋯))) (@bB _ _ _ _ _ _ _ _ _ _ _ c_checks_of ‹12› aW (@aD _ _ _ _ _ _ ‹18› (@aB _)) ⋯ ⋯ ⋯ ⋯) (aX _)) ‹19› (@aP _)) (@aA _ _ _ _ _ (@a9 _ _ _ _ _ _ _ _ (@cF _ _ _ _ (@yW _ _ _ _ _ _ _ _ _ _ _ _ i6 i6 ‹21› ‹29› (@bC _ _ _ _ _ _ _ _ _ (dR K) (by rfl) T.n_len iC (@aD _ _ _ _ _ _ (@bX _ _ (.ref a_KINDS) _ _ (by rfl) T.c_KINDS (by rfl) ⋯) (@aB _)) ⋯ ⋯ ⋯ ⋯) ⋯)) ‹19› (@aP _)) (@aA _ _ _ _ _ (@a8 _ _ (2) _ _ _ _ iD.nd (by rfl) (by first | exact Or.inl (by rfl) | exact Or.inr (by rfl)) (@bO _ _ _ _ _ _ _ _ cZ (@bO _ _ _ _ _ _ _ _ cZ (@bO _ _ _ _ _ _ _ _ pN ‹29› ‹21›) (@bO _ _ _ _ _ _ _ _ pN ‹29› ‹21›)) ‹29›) ⋯ ⋯) (@aA _ _ _ _ _ (@a8 _ _ (3) _ _ _ _ iD.nd (by rfl) (by first | exact Or.inl (by rfl) | exact Or.inr (by rfl)) (@cG _ _ _ _ _ (@aM _ _ _ _ _ _ _ (@c8 _ _ _ _ _ _ _ (cQ K) (@bX _ _ (.ref a_KINDS) _ _ (by rfl) T.c_KINDS (by rfl) ⋯) (@bO _ _ _ _ _ _ _ _ pM ‹29› ‹21›) (fun _ _=>rfl)) (@aD _ _ _ _ _ _ ‹22› (@aM _ _ _ _ _ _ _ (@e9 _ _ _ _ _ _ _ _ _ _ (nK K) ‹17› (@fR _ _ _ (@bX _ _ (.int 7) _ _ (by rfl) hc_HEAD_SIZE ⟨_,rfl⟩ ⋯)) (@iG _)) (@aB _))))) ⋯ ⋯) (@aA _ _ _ _ _ (@a9 _ _ _ _ _ _ _ _ (@cF _ _ _ _ (@cY _ _ _ (@bB _ _ _ _ _ _ _ _ _ _ _ c_is_row ‹12› aW (@aD _ _ _ _ _ _ ‹23› (@aB _)) ⋯ ⋯ ⋯ ⋯) ⋯)) ‹19› (@aP _)) (@aC _ _ _ (@bA _ _ _ _ ‹23›))))))),?_⟩
  have sq:SqT K H a (ns.map V.int):=SqT.of ha
  have lm:(ns.map V.int).length=ns.length:=List.length_map _
  have w2:HT.sIx (ns.map V.int).length 0 (some 2)=2:=by
   rw[lm]
   exact(HT.iF ns.length 0 2).trans (Nat.min_eq_left (by omega))
  have w2':HT.sIx (ns.map V.int).length (ns.map V.int).length (some 2)=2:=by
   rw[lm]
   exact(HT.iF ns.length ns.length 2).trans (Nat.min_eq_left (by omega))
  have w7:HT.sIx (ns.map V.int).length 0 (some 7)=7:=by
   rw[lm]
   exact(HT.iF ns.length 0 7).trans (Nat.min_eq_left (by omega))
  have c2:fN (ns.map V.int) (some 2) none=(ns.drop 2).map V.int:=(zZ (lo:=2) (by omega)).trans (List.map_drop ..).symm
  have c2':fN (ns.map V.int) none (some 2)=(ns.take 2).map V.int:=(BC (hi:=2) (by omega)).trans (List.map_take ..).symm
  have c7:fN (ns.map V.int) (some 7) none=(ns.drop 7).map V.int:=(zZ (lo:=7) (by omega)).trans (List.map_drop ..).symm
  refine⟨_,rfl,2,rfl,a,_,rfl,sq,fun z=>absurd z.1 (by rw[w2]; decide),fun _ p1 hp1=>?_⟩
  rw[c2]
  have S1:=aJ (o:=.tup ((ns.drop 2).map V.int)) hp1
  generalize eH1:upd H p1 (.tup ((ns.drop 2).map V.int))=H1 at S1 ⊢
  have g1:H1 p1=some (.tup ((ns.drop 2).map V.int)):=by rw[<- eH1]; exact aE
  refine⟨_,rfl,2,rfl,a,_,rfl,S1.seqT sq,fun z=>absurd z.2 (by rw[w2',lm]; omega),fun _ p2 hp2=>?_⟩
  rw[c2']
  have S2:=aJ (o:=.tup ((ns.take 2).map V.int)) hp2
  generalize eH2:upd H1 p2 (.tup ((ns.take 2).map V.int))=H2 at S2 ⊢
  have g2:H2 p2=some (.tup ((ns.take 2).map V.int)):=by rw[<- eH2]; exact aE
  refine⟨_,rfl,p1,ns.drop 2,rfl,S2 _ _ g1,by rw[List.length_drop]; omega,fun p3 H3 S3 g3=>?_⟩
  have den:∀ (p:Addr) (l:List Int),H3 p=some (.tup (l.map V.int))->Den H3 (.tuple (l.map .int)) (.ref p):=fun p l g=>by
   simp only[Den]
   exact⟨p,_,rfl,g,bR.mpr rfl⟩
  refine⟨_,_,den p2 _ (S3 _ _ g2),den p3 [(fF (ns.drop 2)).1,(fF (ns.drop 2)).2] g3,pV _,pV _,_,rfl,?_⟩
  rw[EH]
  have SS:aF H H3:=S1.trans (S2.trans S3)
  unfold mC at q qe
  by_cases hc:ns.take 2=[(fF (ns.drop 2)).1,(fF (ns.drop 2)).2]
  case neg=>
   rw[if_neg hc]at qe
   rw[decide_eq_false hc]
   exact aT ⟨(by show 1<=sizeLine; decide),qe rfl H3 SS⟩
  rw[if_pos hc]at q qe
  rw[decide_eq_true hc]
  refine aV ?_
  have sq1:SqT K H3 p1 ((ns.drop 2).map V.int):=SqT.of (S3 _ _ (S2 _ _ g1))
  have bat:∀ i,i<5->atI ((ns.drop 2).map V.int) ((i:Nat):Int)=some (.int (ns.getD (2+i) 0)):=fun i hi=>by
   rw[<- pP]
   exact bP (Ef (by rw[List.length_drop]; omega))
  refine⟨_,rfl,p1,_,_,_,rfl,rfl,sq1,bat 0 (by decide),_,_,rfl,rfl,_,rfl,?_⟩
  show if decide (1<=ns.getD 2 0)=true then _ else _
  by_cases h1:1<=ns.getD 2 0
  case neg=>
   rw[if_neg (fun z=>h1 z.1)]at qe
   rw[if_neg (by rw[decide_eq_true_eq]; exact h1)]
   exact⟨_,rfl,aT ⟨(by show 1<=sizeLine; decide),qe rfl H3 SS⟩⟩
  rw[if_pos (decide_eq_true h1)]
  refine⟨a_KINDS,_,rfl,.inr (T.k_KINDS H3),_,_,rfl,rfl,_,rfl,?_⟩
  show if (!decide (ns.getD 2 0<=8))=true then _ else _
  by_cases h8:ns.getD 2 0<=8
  case neg=>
   rw[if_neg (fun z=>h8 z.2)]at qe
   rw[decide_eq_false h8]
   exact aT ⟨(by show 1<=sizeLine; decide),qe rfl H3 SS⟩
  rw[if_pos ⟨h1,h8⟩]at q qe
  rw[decide_eq_true h8]
  refine aV ?_
  refine⟨_,rfl,p1,_,_,_,rfl,rfl,sq1,bat 1 (by decide),_,_,rfl,rfl,.inr ⟨by decide,by decide⟩,_,rfl,p1,_,_,_,rfl,rfl,sq1,bat 2 (by decide),_,_,rfl,rfl,.inr ⟨by decide,by decide⟩,_,_,rfl,rfl,_,rfl,p1,_,_,_,rfl,rfl,sq1,bat 3 (by decide),_,_,rfl,rfl,?_⟩
  have hk:=Du (i:=ns.getD 2 0 - 1) (by omega) (by omega)
  refine⟨_,rfl,p1,_,_,_,rfl,rfl,sq1,bat 0 (by decide),_,_,rfl,rfl,a_KINDS,_,_,_,rfl,rfl,T.k_KINDS H3,hk,_,rfl,_,rfl,7,rfl,a,_,rfl,SS.seqT sq,fun z=>absurd z.1 (by rw[w7]; decide),fun _ p4 hp4=>?_⟩
  rw[c7]
  have S4:=aJ (o:=.tup ((ns.drop 7).map V.int)) hp4
  generalize eH4:upd H3 p4 (.tup ((ns.drop 7).map V.int))=H4 at S4 ⊢
  have g4:H4 p4=some (.tup ((ns.drop 7).map V.int)):=by rw[<- eH4]; exact aE
  refine⟨(by show 3<=sizeLine; decide),fun p5 hp5=>?_⟩
  have S5:=aJ (o:=.tup [.str (cD.getD (ns.getD 2 0 - 1).toNat "put"),.int (ns.getD 3 0 * 65536+ns.getD 4 0 * 256+ns.getD 5 0),.ref p4]) hp5
  dsimp only at q qe
  generalize hd:(PyData.tuple [.str (cD.getD (ns.getD 2 0 - 1).toNat "put"),.int (ns.getD 3 0 * 65536+ns.getD 4 0 * 256+ns.getD 5 0),.tuple ((ns.drop 7).map .int)])=d at q qe
  have dn:Den (upd H4 p5 (.tup [.str (cD.getD (ns.getD 2 0 - 1).toNat "put"),.int (ns.getD 3 0 * 65536+ns.getD 4 0 * 256+ns.getD 5 0),.ref p4])) d (.ref p5):=by
   rw[<- hd]
   simp only[Den,aU]
   exact⟨p5,_,rfl,aE,_,_,rfl,rfl,_,_,rfl,rfl,_,_,rfl,⟨p4,_,rfl,S5 _ _ g4,bR.mpr rfl⟩,rfl⟩
  refine⟨_,rfl,.ref p5,d,rfl,dn,?_,fun H6 S6=>⟨_,rfl,?_⟩⟩
  ·rintro k n bs e
   rw[<- hd]at e
   injection e with e
   injection e with _ e
   injection e with _ e
   injection e with e _
   injection e with e
   rw[<- e,List.length_map,List.length_drop]
   exact Nat.le_trans (show _<=300 by omega) (by decide)
  cases hb:aZ d with
  | false=>
   rw[if_neg (by rw[hb]; decide)]at qe
   exact aT ⟨(by show 1<=sizeLine; decide),qe rfl H6 (SS.trans (S4.trans (S5.trans S6)))⟩
  | true=>
   rw[if_pos hb]at q
   refine aV ⟨_,rfl,?_⟩
   exact q d rfl p5 H6 (SS.trans (S4.trans (S5.trans S6))) (dn.same S6)
end
noncomputable def gX (C_BadRow C_Broken:Addr):Sp:=fun vs H Q E=>∃ (v:V) (d:PyData),vs=[v]/\Den H d v/\(∀ bs,d = .tuple bs->bs.length<=sizeLine)/\(cI d=false->∀ H',aF H H'->E (.ref C_BadRow) none H')/\
 (cI d=true->(∀ ds (k:Nat),dN ((bD d).length+1) (bD d)=some (ds,k)->∀ p H',aF H H'->Den H' (.tuple [.list ds,.int (k:Int)]) (.ref p)->Q (.ref p) H')/\(dN ((bD d).length+1) (bD d)=none->∀ H',aF H H'->E (.ref C_Broken) none H'))
theorem mV (f:Nat) (ns:List Int):dN (f+1) ns=match tQ ns with
  | none=>some ([],ns.length)
  | some e=>match mC (ns.take e) with
   | none=>none
   | some d=>(dN f (ns.drop e)).map fun r=>(d::r.1,r.2):=rfl
theorem uV:∀ {a b:List PyData},eK a=true->eK b=true->eK (a++b)=true
 | [],b,_,h=>h
 | d::a,b,h1,h2=>by
  simp only[eK,Bool.and_eq_true]at h1
  show (l5 d && eK (a++b))=true
  rw[h1.1,uV h1.2 h2]
  rfl
theorem zW {H:Hp} {d:PyData} {v:V} (h:Den H d v):aU H [d] [v]:=by
 simp only[aU]
 exact⟨v,[],rfl,h,rfl⟩
theorem DA {H H2:Hp} {l:Addr} {ys:List V} (h0:H l=none) (s:aF H H2):aF H (upd H2 l (.lst ys)):=fun c u e=>by
 rw[aG (aY e h0)]
 exact s c u e
theorem EV {H:Hp} {d:PyData} {v:V} (hd:Den H d v) (hb:cI d=true):∃ a,v = .ref a/\H a=some (.tup ((bD d).map V.int)):=by
 cases d with
 | tuple bs=>
  simp only[Den]at hd
  obtain⟨a,ys,rfl,ha,hbs⟩:=hd
  have ei:=lG hbs hb
  subst ei
  exact⟨a,rfl,ha⟩
 | _=>exact absurd hb (by simp [cI])
theorem nC {d:PyData} (hb:cI d=true):fV (bD d):=by
 cases d with
 | tuple bs=>
  have hb:bs.all (bH 0 255)=true:=hb
  rw[List.all_eq_true]at hb
  intro b hm
  have hm:b∈bs.map fun d=>match d with | .int i=>i | _=>0:=hm
  rw[List.mem_map]at hm
  obtain⟨d,h1,h2⟩:=hm
  have h3:=hb d h1
  cases d with
  | int i=>
   have h2:i=b:=h2
   subst h2
   simpa [bH] using h3
  | _=>exact absurd h3 (by simp [bH])
 | _=>exact absurd hb (by simp [cI])
theorem Dw {bs:List PyData}:(bD (.tuple bs)).length=bs.length:=List.length_map _
theorem BN {K:PySem.W.Frag} {a:Addr} {xs:List V} {lo hi:Option Int} {H:Hp} {Q:VK} (ha:H a=some (.tup xs)) (h:∀ b H4,aF H H4->H4 b=some (.tup (fN xs lo hi))->Q (.ref b) H4):DM K (.ref a) lo hi H Q:=by
 refine⟨a,xs,rfl,SqT.of ha,fun z=>?_,fun _ p hp=>h p _ (aJ hp) aE⟩
 refine h a H (aF.refl H) ?_
 rw[ha]
 unfold fN
 rw[z.1,z.2,List.drop_zero,Nat.sub_zero,List.take_length]
section
variable {P:Program} {w:World} {K:PySem.W.Frag} {mg:Str->Option Value} {base:Heap} {a_KINDS C_BadRow C_Broken:Addr}
theorem fJ:FnScope ["some","rows","start","end"] ["some"] (aH o4):=‹0›
set_option maxHeartbeats 1000000 in
theorem Ah {f:Addr} {fd:FuncData} (F:Fun K "rows_in" "rows_in" o4 f fd) (T:TxtB K mg a_KINDS C_BadRow C_Broken) (c_is_bytes:‹8› "is_bytes" 2 ["thing"] fX)
  (c_row_end:‹8› "row_end" 1 ["some","start"] mF) (c_row_from:‹8› "row_from" 4 ["whole"] (kJ C_Broken)):‹7› 5 f fd ["some"] (gX C_BadRow C_Broken):=by
 refine F.okX fJ (fun vs H Q E h=>?_) (fun cdv A outer s H vs Q E hr h=>?_)
 ·obtain⟨v,d,rfl,_⟩:=h
  rfl
 ·obtain⟨v,d,rfl,hd,hz,qb,q⟩:=h
  refine⟨_,@aA _ _ _ _ _ (@a9 _ _ _ _ _ _ _ _ (@cF _ _ _ _ (@cY _ _ _ (@bB _ _ _ _ _ _ _ _ _ _ _ c_is_bytes ‹12› aW ‹33› ⋯ ⋯ ⋯ ⋯) ⋯)) ‹36› (@aP _)) (@aA _ _ _ _ _ (@a8 _ _ (1) _ _ _ _ fJ.nd (by rfl) (by first | exact Or.inl (by rfl) | exact Or.inr (by rfl)) (@iS _ _ _ _ (@aB _)) ⋯ ⋯) (@aA _ _ _ _ _ (@a8 _ _ (2) _ _ _ _ fJ.nd (by rfl) (by first | exact Or.inl (by rfl) | exact Or.inr (by rfl)) ‹21› ⋯ ⋯) (@aA _ _ _ _ _ (@a8 _ _ (3) _ _ _ _ fJ.nd (by rfl) (by first | exact Or.inl (by rfl) | exact Or.inr (by rfl)) (@bB _ _ _ _ _ _ _ _ _ _ _ c_row_end ‹12› aW (@aD _ _ _ _ _ _ ‹17› ‹41›) ⋯ ⋯ ⋯ ⋯) ⋯ ⋯) (@aA _ _ _ _ _ (@sH _ _ _ _ _ _ (qH fM) (@aS _ _ _ _ _ _ _ _ xE ‹23› (@mW _ _ _) (aX _)) (@aA _ _ _ _ _ (aQ (pJ K PySem.F.plainAttrs_list PySem.F.slot_list_append PySem.F.type_list_append lT (pv 1) (cJ (bB c_row_from ‹12› bK (aM (e9 (nK K) (pv 0) (fR (pv 2)) (fR (pv 3))) aB)) aB))) (@aA _ _ _ _ _ (@a8 _ _ (2) _ _ _ _ fJ.nd (by rfl) (by first | exact Or.inl (by rfl) | exact Or.inr (by rfl)) ‹23› ⋯ ⋯) (@aC _ _ _ (@a8 _ _ (3) _ _ _ _ fJ.nd (by rfl) (by first | exact Or.inl (by rfl) | exact Or.inr (by rfl)) (@bB _ _ _ _ _ _ _ _ _ _ _ c_row_end ‹12› aW (@aD _ _ _ _ _ _ ‹17› ‹41›) ⋯ ⋯ ⋯ ⋯) ⋯ ⋯))))) (@aC _ _ _ (@bA _ _ _ _ (@cG _ _ _ _ _ (@aD _ _ _ _ _ _ ‹18› (@dO _ _ _ _ _ _ _ _ (@bO _ _ _ _ _ _ _ _ pM ‹32› ‹22›) (@aB _)))))))))),?_⟩
  refine⟨_,rfl,v,d,rfl,hd,hz,fun H1 S1=>⟨_,rfl,?_⟩⟩
  cases hb:cI d with
  | false=>exact aT ⟨(by show 1<=sizeLine; decide),qb hb H1 S1⟩
  | true=>
  refine aV ?_
  obtain⟨q,qe⟩:=q hb
  obtain⟨a,rfl,ha⟩:=EV hd hb
  have bo:=nC hb
  have hns:(bD d).length<=sizeLine:=by
   cases d with
   | tuple bs=>rw[Dw]; exact hz bs rfl
   | _=>exact absurd hb (by simp [cI])
  generalize bD d=ns at *
  refine⟨(by show 0<=sizeLine; decide),fun rl hrl=>?_⟩
  have S2:=aJ (o:=.lst []) hrl
  generalize eH2:upd H1 rl (.lst [])=H2 at S2 ⊢
  have g2:H2 rl=some (.lst []):=by rw[<- eH2]; exact aE
  have hrl0:H rl=none:=S1.free hrl
  have SS:aF H H2:=S1.trans S2
  refine⟨_,rfl,_,rfl,a,ns,0,rfl,SS _ _ ha,bo,Nat.zero_le _,?_⟩
  refine⟨fun m σ H3=>∃ (st f:Nat) (ds:List PyData) (xs:List V),m=ns.length - st/\st<=ns.length/\ns.length<st+f/\σ = [some (.ref a),some (.ref rl),some (.int (st:Int)),some (Gj st (tQ (ns.drop st)))]/\aF H H3/\
   H3 rl=some (.lst xs)/\aU H3 ds xs/\eK ds=true/\ds.length<=st/\dN (ns.length+1) ns=(dN f (ns.drop st)).map fun r=>(ds++r.1,r.2),⟨_,0,ns.length+1,[],[],rfl,Nat.zero_le _,by omega,rfl,SS,g2,by simp only[aU],rfl,Nat.le_refl _,?_⟩,?_⟩
  ·simp
  rintro m σ H3 ⟨st,f,ds,xs,rfl,hst,hf,rfl,S3,g3,dn,td,hl,er⟩
  obtain⟨f,rfl⟩:∃ g,f=g+1:=⟨f - 1,by omega⟩
  rw[mV f]at er
  have ldr:(ns.drop st).length=ns.length - st:=List.length_drop
  refine⟨_,rfl,rfl,_,rfl,?_⟩
  cases he:tQ (ns.drop st) with
  | none=>
   rw[he]at er
   refine aV ?_
   have er:dN (ns.length+1) ns=some (ds++[],(ns.drop st).length):=er
   rw[List.append_nil,ldr]at er
   refine⟨_,rfl,_,rfl,a,_,rfl,.inr (SqT.of (S3 _ _ ha)),_,rfl,_,_,rfl,rfl,(by show 2<=sizeLine; decide),fun p hp=>?_⟩
   have S4:=aJ (o:=.tup [.ref rl,.int (((ns.map V.int).length:Int) - (st:Int))]) hp
   refine q ds (ns.length - st) er p _ (S3.trans S4) ?_
   have e1:(((ns.map V.int).length:Int) - (st:Int))=((ns.length - st:Nat):Int):=by rw[List.length_map]; omega
   simp only[Den,aU]
   exact⟨p,_,rfl,aE,_,_,rfl,⟨rl,xs,rfl,S4 _ _ g3,dn.same S4⟩,_,_,rfl,by rw[e1],rfl⟩
  | some e=>
   rw[he]at er
   obtain⟨e7,ele⟩:=Bd he
   rw[ldr]at ele
   have hsz:ns.length<=sizeLine:=hns
   refine aT ⟨fun σ' H'=>∃ m',m'<ns.length - st/\∃ (st f:Nat) (ds:List PyData) (xs:List V),m'=ns.length - st/\st<=ns.length/\ns.length<st+f/\σ'=[some (.ref a),some (.ref rl),some (.int (st:Int)),some (Gj st (tQ (ns.drop st)))]/\aF H H'/\
    H' rl=some (.lst xs)/\aU H' ds xs/\eK ds=true/\ds.length<=st/\dN (ns.length+1) ns=(dN f (ns.drop st)).map fun r=>(ds++r.1,r.2),fun _ _ h=>h,?_⟩
   refine⟨_,rfl,.inl ⟨rfl,_,SqL.of g3⟩,?_⟩
   refine⟨_,rfl,_,rfl,_,rfl,_,rfl,_,rfl,BN (S3 _ _ ha) fun b H4 S4 g4=>?_⟩
   have ec:fN (ns.map V.int) (some (st:Int)) (some ((st+e:Nat):Int))=((ns.drop st).take e).map V.int:=by
    rw[Fc (by omega) (by rw[List.length_map]; omega),<- List.map_drop,<- List.map_take,Nat.add_sub_cancel_left]
   rw[ec]at g4
   have er:dN (ns.length+1) ns=Option.map (fun(r:List PyData × Nat)=>(ds++r.1,r.2)) (match mC ((ns.drop st).take e) with
    | none=>none
    | some d=>Option.map (fun r=>(d::r.1,r.2)) (dN f ((ns.drop st).drop e))):=er
   have le:((ns.drop st).take e).length=e:=by rw[List.length_take,ldr]; omega
   have h262:e<=262:=by
    have h6:st+6<ns.length:=by omega
    have b6:=bo _ (zJ h6)
    unfold tQ at he
    rw[ldr,pP,if_neg (by omega)]at he
    split at he
    ·have:=Option.some.inj he
     omega
    ·cases he
   refine⟨b,_,rfl,g4,by rw[le]; omega,by rw[le]; omega,fun d' hd' p H5 S5 dp=>?_,fun hn H5 S5=>?_⟩
   ·rw[hd']at er
    have S35:aF H3 H5:=S4.trans S5
    refine⟨rl,xs,.ref p,rfl,rfl,S35 _ _ g3,?_,?_⟩
    ·rw[dn.length]
     omega
    have N5:=u7 (zs:=xs++[.ref p]) (S35 _ _ g3)
    have S6:aF H (upd H5 rl (.lst (xs++[.ref p]))):=DA hrl0 (S3.trans S35)
    have D6:aU (upd H5 rl (.lst (xs++[.ref p]))) (ds++[d']) (xs++[.ref p]):=((dn.same S35).n N5 td).app (zW (dp.n N5 (vA hd')))
    have g6:upd H5 rl (.lst (xs++[.ref p])) rl=some (.lst (xs++[.ref p])):=aE
    generalize upd H5 rl (.lst (xs++[.ref p]))=H6 at S6 D6 g6 ⊢
    refine⟨_,rfl,_,rfl,_,rfl,a,ns,st+e,rfl,S6 _ _ ha,bo,by omega,?_⟩
    refine⟨_,?_,st+e,f,ds++[d'],xs++[.ref p],rfl,by omega,by omega,rfl,S6,g6,D6,uV td ?_,?_,?_⟩
    ·omega
    ·show (l5 d' && true)=true
     rw[vA hd']
     rfl
    ·rw[List.length_append]
     show _+1<=_
     omega
    ·rw[er,List.drop_drop]
     cases dN f (ns.drop (st+e)) with
     | none=>rfl
     | some r=>simp
   ·rw[hn]at er
    exact qe er H5 (S3.trans (S4.trans S5))
end
mutual
noncomputable def qD:PyData->Bool
 | .none | .bool _ | .int _=>true
 | .str x=>PyData.strOk x
 | .tuple ds=>rO ds
 | .list ds=>rO ds
 | .dict _=>false
noncomputable def rO:List PyData->Bool
 | []=>true
 | d::ds=>qD d && rO ds
end
mutual
theorem zO:∀ {d:PyData},qD d=true->PyData.eqv d d=true
 | .none,_=>rfl
 | .bool b,_=>by cases b <;> rfl
 | .int i,_=>by simp [PyData.eqv]
 | .str x,_=>by simp [PyData.eqv]
 | .tuple ds,h=>by
  simp only[qD]at h
  simp only[PyData.eqv]
  exact pQ h
 | .list ds,h=>by
  simp only[qD]at h
  simp only[PyData.eqv]
  exact pQ h
 | .dict _,h=>by simp [qD]at h
theorem pQ:∀ {ds:List PyData},rO ds=true->PyData.eqvAll ds ds=true
 | [],_=>rfl
 | d::ds,h=>by
  simp only[rO,Bool.and_eq_true]at h
  simp only[PyData.eqvAll]
  rw[zO h.1,pQ h.2]
  rfl
end
mutual
theorem BX:∀ {d:PyData},qD d=true->PyData.canLay0 d=true
 | .none,_=>rfl
 | .bool b,_=>rfl
 | .int i,_=>rfl
 | .str x,h=>by
  simp only[qD]at h
  simp only[PyData.canLay0]
  exact h
 | .tuple ds,h=>by
  simp only[qD]at h
  simp only[PyData.canLay0]
  exact sZ h
 | .list ds,h=>by
  simp only[qD]at h
  simp only[PyData.canLay0]
  exact sZ h
 | .dict _,h=>by simp [qD]at h
theorem sZ:∀ {ds:List PyData},rO ds=true->PyData.canLayAll0 ds=true
 | [],_=>rfl
 | d::ds,h=>by
  simp only[rO,Bool.and_eq_true]at h
  simp only[PyData.canLayAll0]
  rw[BX h.1,sZ h.2]
  rfl
end
theorem uY {d:PyData} (h:qD d=true) (hd:PyData.depth d<=64):SeqAt.shaped d=true:=by
 unfold SeqAt.shaped
 rw[BX h,decide_eq_true hd]
 rfl
end Qh
end
section
namespace Qh
open PySem L2
theorem EX:bootBuiltins "max" = some (.builtin "max"):=by decide +kernel
theorem l0:bootBuiltins "sorted" = some (.builtin "sorted"):=by decide +kernel
theorem hu1 {a c:Nat} (h:a+64<c):a+1<c:=by omega
noncomputable abbrev Ent:=List Int × Int × Int
noncomputable def gN (k:Str) (n:Int) (ns:List Int):PyData:=.tuple [.str k,.int n,.tuple (ns.map .int)]
structure Bk where
 es:List (Int × Ent)
 up:Int
 parts:List (Int × List Int)
noncomputable def dQ (es:List (Int × Ent)) (n:Int):Option Ent:=(es.find? fun p=>decide (p.1=n)).map (·.2)
noncomputable def iZ (es:List (Int × Ent)) (n:Int) (e:Ent):List (Int × Ent):=if (es.any fun p=>decide (p.1=n))=true then es.map (fun p=>if p.1=n then (p.1,e) else p) else es++[(n,e)]
noncomputable def iB (es:List (Int × Ent)) (n:Int):List (Int × Ent):=es.filter fun p=>decide (p.1≠n)
noncomputable def nT (B:Bk) (n:Int) (body:List Int) (seg:Int):Option Bk:=if n<B.up then none else some ⟨iZ B.es n (body,0,seg),n+1,B.parts⟩
noncomputable def uH (seg:Int):Bk->List (Int × List Int)->Option Bk
 | B,[]=>some B
 | B,p::ps=>match nT B p.1 p.2 seg with
  | none=>none
  | some B'=>uH seg B' ps
noncomputable def zY (B:Bk) (n m:Int) (seg:Int):Option Bk:=if B.parts.map (·.1)=(List.range m.toNat).map (fun(k:Nat)=>n+(k:Int)) then uH seg ⟨B.es,B.up,[]⟩ B.parts else none
noncomputable def FT (i j:Int):Int:=if j > i then j else i
noncomputable def dG (B:Bk) (k:Str) (n:Int) (body:List Int) (seg:Int):Option Bk:=
 if k = "part" then some ⟨B.es,B.up,B.parts++[(n,body)]⟩
 else if k = "deal" then zY B n (body.getD 0 0) seg
 else if B.parts≠[] then none
 else if k = "put" then nT B n body seg
 else if k = "from" then some ⟨B.es,FT B.up n,B.parts⟩
 else if k = "carried" then some ⟨iZ B.es n (body.drop 1,body.getD 0 0,seg),FT B.up (n+1),B.parts⟩
 else match dQ B.es n with
  | none=>some B
  | some e=>if k = "out" then some ⟨iZ B.es n (e.1,e.2.1+1,e.2.2),B.up,B.parts⟩ else if k = "new" then some ⟨iZ B.es n (e.1,0,e.2.2),B.up,B.parts⟩ else some ⟨iB B.es n,B.up,B.parts⟩
theorem iY (es:List (Int × Ent)) (n:Int) (e:Ent):(iZ es n e).length<=es.length+1:=by
 unfold iZ
 split
 ·rw[List.length_map]
  omega
 ·rw[List.length_append]
  exact Nat.le_refl _
noncomputable def gC (H H':Hp):Prop:=∀ b xs,H b=some (.tup xs)->H' b=some (.tup xs)
theorem aF.tup {H H':Hp} (s:aF H H'):gC H H':=fun b xs e=>s b _ e
theorem gC.trans {H H1 H2:Hp} (a:gC H H1) (b:gC H1 H2):gC H H2:=fun c xs e=>b c xs (a c xs e)
mutual
theorem Bh {H H':Hp} (e:gC H H'):∀ {d:PyData} {v:V},l5 d=true->Den H d v->Den H' d v
 | .none,v,t,h=>by simp only[Den]at h ⊢; exact h
 | .bool b,v,t,h=>by simp only[Den]at h ⊢; exact h
 | .int i,v,t,h=>by simp only[Den]at h ⊢; exact h
 | .str x,v,t,h=>by simp only[Den]at h ⊢; exact h
 | .tuple ds,v,t,h=>by
  simp only[Den]at h ⊢
  simp only[l5]at t
  obtain⟨a,xs,e1,h1,h2⟩:=h
  exact⟨a,xs,e1,e _ _ h1,m6 e t h2⟩
 | .list ds,v,t,h=>by simp [l5]at t
 | .dict _,v,t,h=>by simp only[Den]at h
theorem m6 {H H':Hp} (e:gC H H'):∀ {ds:List PyData} {xs:List V},eK ds=true->aU H ds xs->aU H' ds xs
 | [],xs,t,h=>by simp only[aU]at h ⊢; exact h
 | d::ds,xs,t,h=>by
  simp only[aU]at h ⊢
  simp only[eK,Bool.and_eq_true]at t
  obtain⟨x,r,e1,h1,h2⟩:=h
  exact⟨x,r,e1,Bh e t.1 h1,m6 e t.2 h2⟩
end
noncomputable def kE (H:Hp) (v:V) (e:Ent):Prop:=∃ t b,v = .ref t/\H t=some (.tup [.ref b,.int e.2.1,.int e.2.2])/\H b=some (.tup (e.1.map V.int))
theorem kE.t {H H':Hp} {v:V} {e:Ent} (s:gC H H') (h:kE H v e):kE H' v e:=by
 obtain⟨t,b,e1,h1,h2⟩:=h
 exact⟨t,b,e1,s _ _ h1,s _ _ h2⟩
noncomputable def EsR (H:Hp):List (Int × Ent)->List (Key × V)->Prop
 | [],[]=>True
 | p::es,q::kvs=>q.1=Sum.inl p.1/\kE H q.2 p.2/\EsR H es kvs
 | _,_=>False
theorem EsR.t {H H':Hp} (s:gC H H'):∀ {es:List (Int × Ent)} {kvs:List (Key × V)},EsR H es kvs->EsR H' es kvs
 | [],[],_=>trivial
 | p::es,q::kvs,h=>⟨h.1,h.2.1.t s,EsR.t s h.2.2⟩
 | [],_::_,h=>h.elim
 | _::_,[],h=>h.elim
theorem EsR.len {H:Hp}:∀ {es:List (Int × Ent)} {kvs:List (Key × V)},EsR H es kvs->kvs.length=es.length
 | [],[],_=>rfl
 | p::es,q::kvs,h=>by rw[List.length_cons,List.length_cons,EsR.len h.2.2]
 | [],_::_,h=>h.elim
 | _::_,[],h=>h.elim
theorem EsR.keys {H:Hp}:∀ {es:List (Int × Ent)} {kvs:List (Key × V)},EsR H es kvs->kvs.map (·.1)=(es.map (·.1)).map Sum.inl
 | [],[],_=>rfl
 | p::es,q::kvs,h=>by rw[List.map_cons,List.map_cons,List.map_cons,h.1,EsR.keys h.2.2]
 | [],_::_,h=>h.elim
 | _::_,[],h=>h.elim
theorem xV {a b:Int}:((Sum.inl a:Key)=Sum.inl b) ↔ a=b:=⟨Sum.inl.inj,fun h=>by rw[h]⟩
theorem EsR.val {H:Hp} {n:Int}:∀ {es:List (Int × Ent)} {kvs:List (Key × V)},EsR H es kvs->(match dQ es n with | none=>eE kvs (Sum.inl n)=none | some e=>∃ v,eE kvs (Sum.inl n)=some v/\kE H v e)
 | [],[],_=>rfl
 | p::es,q::kvs,h=>by
  obtain⟨h1,h2,h3⟩:=h
  have ih:=EsR.val (n:=n) h3
  by_cases e:p.1=n
  ·have:dQ (p::es) n=some p.2:=by simp [dQ,e]
   rw[this]
   exact⟨q.2,gU (by rw[h1,e]),h2⟩
  ·have e1:dQ (p::es) n=dQ es n:=by simp [dQ,e]
   have e2:eE (q::kvs) (Sum.inl n)=eE kvs (Sum.inl n):=gW (by rw[h1,xV]; exact e)
   rw[e1,e2]
   exact ih
 | [],_::_,h=>h.elim
 | _::_,[],h=>h.elim
theorem EsR.any {H:Hp} {n:Int}:∀ {es:List (Int × Ent)} {kvs:List (Key × V)},EsR H es kvs->(kvs.any fun kv=>decide (kv.1=Sum.inl n))=(es.any fun p=>decide (p.1=n))
 | [],[],_=>rfl
 | p::es,q::kvs,h=>by
  obtain⟨h1,h2,h3⟩:=h
  rw[List.any_cons,List.any_cons,EsR.any h3,h1]
  congr 1
  exact decide_eq_decide.mpr xV
 | [],_::_,h=>h.elim
 | _::_,[],h=>h.elim
theorem EsR.mapP {H:Hp} {n:Int} {e:Ent} {v:V} (hv:kE H v e):∀ {es:List (Int × Ent)} {kvs:List (Key × V)},EsR H es kvs->EsR H (es.map fun p=>if p.1=n then (p.1,e) else p) (kvs.map fun kv=>if kv.1=Sum.inl n then (kv.1,v) else kv)
 | [],[],_=>trivial
 | p::es,q::kvs,h=>by
  obtain⟨h1,h2,h3⟩:=h
  rw[List.map_cons,List.map_cons]
  by_cases z:p.1=n
  ·rw[if_pos z,if_pos (show q.1=Sum.inl n by rw[h1,z])]
   exact⟨h1,hv,EsR.mapP hv h3⟩
  ·rw[if_neg z,if_neg (show ¬ q.1=Sum.inl n by rw[h1,xV]; exact z)]
   exact⟨h1,h2,EsR.mapP hv h3⟩
 | [],_::_,h=>h.elim
 | _::_,[],h=>h.elim
theorem EsR.snoc {H:Hp} {n:Int} {e:Ent} {v:V} (hv:kE H v e):∀ {es:List (Int × Ent)} {kvs:List (Key × V)},EsR H es kvs->EsR H (es++[(n,e)]) (kvs++[(Sum.inl n,v)])
 | [],[],_=>⟨rfl,hv,trivial⟩
 | p::es,q::kvs,h=>⟨h.1,h.2.1,EsR.snoc hv h.2.2⟩
 | [],_::_,h=>h.elim
 | _::_,[],h=>h.elim
theorem EsR.put {H:Hp} {es:List (Int × Ent)} {kvs:List (Key × V)} (h:EsR H es kvs) {n:Int} {e:Ent} {v:V} (hv:kE H v e):EsR H (iZ es n e) (gP kvs (Sum.inl n) v):=by
 unfold iZ gP
 rw[h.any]
 by_cases z:(es.any fun p=>decide (p.1=n))=true
 ·rw[if_pos z,if_pos z]
  exact h.mapP hv
 ·rw[if_neg z,if_neg z]
  exact h.snoc hv
theorem EsR.drop {H:Hp} {n:Int}:∀ {es:List (Int × Ent)} {kvs:List (Key × V)},EsR H es kvs->EsR H (iB es n) (gB kvs (Sum.inl n))
 | [],[],_=>trivial
 | p::es,q::kvs,h=>by
  obtain⟨h1,h2,h3⟩:=h
  have ih:=EsR.drop (n:=n) h3
  by_cases z:p.1=n
  ·have e1:iB (p::es) n=iB es n:=by simp [iB,z]
   rw[e1,vS (by rw[h1,z])]
   exact ih
  ·have e1:iB (p::es) n=p::iB es n:=by simp [iB,z]
   rw[e1,vT (by rw[h1,xV]; exact z)]
   exact⟨h1,h2,ih⟩
 | [],_::_,h=>h.elim
 | _::_,[],h=>h.elim
noncomputable def eT (ps:List (Int × List Int)):List PyData:=ps.map fun p=>gN "part" p.1 p.2
theorem qP (k:Str) (n:Int) (ns:List Int):l5 (gN k n ns)=true:=by
 have tl:∀ l:List Int,eK (l.map PyData.int)=true:=by
  intro l
  induction l with
  | nil=>rfl
  | cons x l ih=>exact ih
 unfold gN
 simp only[l5,eK,Bool.true_and,Bool.and_true]
 exact tl ns
theorem gR:∀ ps:List (Int × List Int),eK (eT ps)=true
 | []=>rfl
 | p::ps=>by
  show (l5 (gN "part" p.1 p.2) && eK (eT ps))=true
  rw[qP,gR ps]
  rfl
noncomputable def bkF (de dp:Addr) (up:Int):List (Str × V):=[("entries",.ref de),("upcoming",.int up),("parts",.ref dp)]
structure BookAt (C:Addr) (H:Hp) (bk de dp:Addr) (B:Bk):Prop where
 self:∃ dx,H bk=some (.ins C dx (bkF de dp B.up))
 ent:∃ kvs,H de=some (.dK kvs)/\EsR H B.es kvs
 par:∃ ps,H dp=some (.lst ps)/\aU H (eT B.parts) ps
noncomputable def Frm (bk de dp:Addr) (H H':Hp):Prop:=∀ b o,H b=some o->b≠bk->b≠de->b≠dp->H' b=some o
theorem Frm.refl (bk de dp:Addr) (H:Hp):Frm bk de dp H H:=fun _ _ e _ _ _=>e
theorem Frm.trans {bk de dp dp':Addr} {H H1 H2:Hp} (a:Frm bk de dp H H1) (b:Frm bk de dp' H1 H2) (hd:dp'=dp\/H dp'=none):Frm bk de dp H H2:=fun c o e h1 h2 h3=>by
 refine b c o (a c o e h1 h2 h3) h1 h2 ?_
 rintro rfl
 rcases hd with rfl | hd
 ·exact h3 rfl
 ·rw[hd]at e
  cases e
theorem aF.frm {bk de dp:Addr} {H H':Hp} (s:aF H H'):Frm bk de dp H H':=fun b o e _ _ _=>s b o e
theorem BookAt.tup {C bk de dp:Addr} {H H':Hp} {B:Bk} (h:BookAt C H bk de dp B) (f:Frm bk de dp H H'):gC H H':=fun b xs e=>by
 obtain⟨dx,h1⟩:=h.self
 obtain⟨kvs,h2,_⟩:=h.ent
 obtain⟨ps,h3,_⟩:=h.par
 exact f b _ e (by rintro rfl; rw[h1]at e; cases e) (by rintro rfl; rw[h2]at e; cases e) (by rintro rfl; rw[h3]at e; cases e)
theorem BookAt.same {C bk de dp:Addr} {H H':Hp} {B:Bk} (h:BookAt C H bk de dp B) (s:aF H H'):BookAt C H' bk de dp B:=by
 obtain⟨dx,h1⟩:=h.self
 obtain⟨kvs,h2,h3⟩:=h.ent
 obtain⟨ps,h4,h5⟩:=h.par
 exact⟨⟨dx,s _ _ h1⟩,⟨kvs,s _ _ h2,h3.t (aF.tup s)⟩,⟨ps,s _ _ h4,h5.same s⟩⟩
theorem BookAt.ne {C bk de dp:Addr} {H:Hp} {B:Bk} (h:BookAt C H bk de dp B):bk≠de/\bk≠dp/\de≠dp:=by
 obtain⟨dx,h1⟩:=h.self
 obtain⟨kvs,h2,h3⟩:=h.ent
 obtain⟨ps,h4,h5⟩:=h.par
 refine⟨?_,?_,?_⟩
 ·rintro rfl
  rw[h1]at h2
  cases h2
 ·rintro rfl
  rw[h1]at h4
  cases h4
 ·rintro rfl
  rw[h2]at h4
  cases h4
theorem lM {H:Hp} {a:Addr} {o o':HO} (h:H a=some o) (hn:∀ xs,o ≠ .tup xs):gC H (upd H a o'):=fun b xs e=>by
 rw[aG (fun z=>by rw[z,h]at e; exact hn xs (Option.some.inj e))]
 exact e
theorem tW {C bk de dp:Addr} {H:Hp} {B:Bk} (h:BookAt C H bk de dp B) {kvs':List (Key × V)} {es':List (Int × Ent)} (hr:EsR H es' kvs'):BookAt C (upd H de (.dK kvs')) bk de dp ⟨es',B.up,B.parts⟩:=by
 obtain⟨n1,n2,n3⟩:=h.ne
 obtain⟨dx,h1⟩:=h.self
 obtain⟨kvs,h2,h3⟩:=h.ent
 obtain⟨ps,h4,h5⟩:=h.par
 have t:=lM (o':=.dK kvs') h2 (fun xs z=>by cases z)
 exact⟨⟨dx,by rw[aG n1]; exact h1⟩,⟨kvs',aE,hr.t t⟩,⟨ps,by rw[aG (Ne.symm n3)]; exact h4,m6 t (gR _) h5⟩⟩
theorem rA {C bk de dp dx dp':Addr} {H:Hp} {B:Bk} (h:BookAt C H bk de dp B) (u:Int) {ps:List V} {parts:List (Int × List Int)} (h4:H dp'=some (.lst ps)) (h5:aU H (eT parts) ps):BookAt C (upd H bk (.ins C dx (bkF de dp' u))) bk de dp' ⟨B.es,u,parts⟩:=by
 obtain⟨n1,n2,n3⟩:=h.ne
 obtain⟨dx0,h1⟩:=h.self
 obtain⟨kvs,h2,h3⟩:=h.ent
 have t:=lM (o':=.ins C dx (bkF de dp' u)) h1 (fun xs z=>by cases z)
 have n4:dp'≠bk:=by
  rintro rfl
  rw[h1]at h4
  cases h4
 exact⟨⟨dx,aE⟩,⟨kvs,by rw[aG (Ne.symm n1)]; exact h2,h3.t t⟩,⟨ps,by rw[aG n4]; exact h4,m6 t (gR _) h5⟩⟩
theorem Gm {C bk de dp:Addr} {H:Hp} {B:Bk} (h:BookAt C H bk de dp B) {ps:List V} {parts:List (Int × List Int)} (h5:aU H (eT parts) ps):BookAt C (upd H dp (.lst ps)) bk de dp ⟨B.es,B.up,parts⟩:=by
 obtain⟨n1,n2,n3⟩:=h.ne
 obtain⟨dx0,h1⟩:=h.self
 obtain⟨kvs,h2,h3⟩:=h.ent
 obtain⟨ps0,h4,_⟩:=h.par
 have t:=lM (o':=.lst ps) h4 (fun xs z=>by cases z)
 exact⟨⟨dx0,by rw[aG n2]; exact h1⟩,⟨kvs,by rw[aG n3]; exact h2,h3.t t⟩,⟨ps,aE,m6 t (gR _) h5⟩⟩
theorem x4 {bk de dp:Addr} {H:Hp} {o:HO}:Frm bk de dp H (upd H bk o):=fun b u e h1 _ _=>by rw[aG h1]; exact e
theorem tM {bk de dp:Addr} {H:Hp} {o:HO}:Frm bk de dp H (upd H de o):=fun b u e _ h1 _=>by rw[aG h1]; exact e
theorem Gg {bk de dp:Addr} {H:Hp} {o:HO}:Frm bk de dp H (upd H dp o):=fun b u e _ _ h1=>by rw[aG h1]; exact e
theorem Ab {de dp dp':Addr} {u:Int}:cA "parts" (.ref dp') (bkF de dp u)=bkF de dp' u:=rfl
structure TxtK (K:PySem.W.Frag) (mg:Str->Option Value) (a_KINDS C_BadRow C_Broken C_Book:Addr):Prop extends TxtR K mg a_KINDS C_BadRow where
 n_list:mg "list" = none
 n_max:mg "max" = none
 n_sorted:mg "sorted" = none
 x_Broken:cW K C_Broken=true
 m_Broken:mg "Broken" = some (.ref C_Broken)
 cl:Cls K C_Book
 f_entries:cK K C_Book "entries"
 f_upcoming:cK K C_Book "upcoming"
 f_parts:cK K C_Book "parts"
noncomputable abbrev AV:Stmt:=bI (top 35) 0
noncomputable abbrev wZ:Stmt:=bI (top 35) 1
noncomputable abbrev kU:Stmt:=bI (top 35) 2
noncomputable abbrev jO:Stmt:=bI (top 35) 3
noncomputable abbrev sB:Stmt:=bI (top 35) 4
noncomputable abbrev r8:Stmt:=bI (top 35) 5
noncomputable abbrev pD:Stmt:=bI (top 35) 6
noncomputable def gJ (C C_Broken:Addr):Sp:=fun vs H Q E=>∃ (bk de dp b:Addr) (B:Bk) (n seg:Int) (body:List Int),vs=[.ref bk,.int n,.ref b,.int seg]/\BookAt C H bk de dp B/\H b=some (.tup (body.map V.int))/\B.es.length<1000/\
 (∀ B',nT B n body seg=some B'->∀ H',Frm bk de dp H H'->BookAt C H' bk de dp B'->Q .non H')/\(nT B n body seg=none->∀ H',Frm bk de dp H H'->E (.ref C_Broken) none H')
noncomputable def oQ (C:Addr):Sp:=fun vs H Q _=>∃ (bk de dp:Addr) (B:Bk) (k:Str) (n:Int) (e:Ent),vs=[.ref bk,.str k,.int n]/\BookAt C H bk de dp B/\dQ B.es n=some e/\B.es.length<1000/\
 ∀ H',Frm bk de dp H H'->BookAt C H' bk de dp (if k = "out" then ⟨iZ B.es n (e.1,e.2.1+1,e.2.2),B.up,B.parts⟩ else if k = "new" then ⟨iZ B.es n (e.1,0,e.2.2),B.up,B.parts⟩ else ⟨iB B.es n,B.up,B.parts⟩)->Q .non H'
noncomputable def zG (n:Int) (e:Ent):PyData:=.tuple [.int n,.tuple (e.1.map .int),.int e.2.1]
noncomputable def lO (C:Addr):Sp:=fun vs H Q _=>∃ (bk de dp:Addr) (B:Bk) (n:Int) (e:Ent),vs=[.ref bk,.int n]/\BookAt C H bk de dp B/\dQ B.es n=some e/\∀ p H',aF H H'->Den H' (zG n e) (.ref p)->Q (.ref p) H'
theorem iA {k x:Str} (h:k=x):decide (V.str k=V.str x)=true:=decide_eq_true (by rw[h])
theorem hZ {k x:Str} (h:¬ k=x):decide (V.str k=V.str x)=false:=decide_eq_false (fun z=>h (V.str.inj z))
section
variable {P:Program} {w:World} {K:PySem.W.Frag} {mg:Str->Option Value} {base:Heap} {a_KINDS C_BadRow C_Broken C_Book:Addr}
theorem nN:FnScope ["self","number","body","segment"] ["self","number","body","segment"] (aH kU):=‹0›
theorem xN {f:Addr} {fd:FuncData} (F:Fun K "enter_put" "Book.enter_put" kU f fd) (T:‹5›):‹7› 1 f fd ["self","number","body","segment"] (gJ C_Book C_Broken):=by
 refine F.okX nN (fun vs H Q E h=>?_) (fun cdv A outer s H vs Q E hr h=>?_)
 ·obtain⟨bk,de,dp,b,B,n,seg,body,rfl,_⟩:=h
  rfl
 ·obtain⟨bk,de,dp,b,B,n,seg,body,rfl,hB,hb,hl,q,qe⟩:=h
  refine⟨_,@aA _ _ _ _ _ (@a9 _ _ _ _ _ _ _ _ (@aS _ _ _ _ _ _ _ _ vE ‹18› ‹27› (aX _)) ‹19› (@aP _)) (@aA _ _ _ _ _ (@jX _ _ _ _ _ _ _ _ _ (hu1 hr.units) ‹27› ‹18› (@cG _ _ _ _ _ (@aD _ _ _ _ _ _ ‹22› (@aO _ _ _ _ _ _ _ ‹21› (@aD _ _ _ _ _ _ ‹23› (@aB _))))) (by rfl)) (@aC _ _ _ (@cT _ _ _ _ _ _ _ _ ‹17› (@bO _ _ _ _ _ _ _ _ cZ ‹18› ‹21›) (by rfl)))),?_⟩
  obtain⟨dx,h1⟩:=hB.self
  refine⟨_,rfl,_,rfl,bk,_,dx,_,_,rfl,h1,T.cl,T.f_upcoming,rfl,_,_,rfl,rfl,_,rfl,?_⟩
  show if decide (n<B.up)=true then _ else _
  unfold nT at q qe
  by_cases hn:n<B.up
  ·rw[if_pos (decide_eq_true hn)]
   rw[if_pos hn]at qe
   exact⟨(by show 1<=sizeLine; decide),qe rfl H (Frm.refl _ _ _ _)⟩
  rw[if_neg (by rw[decide_eq_true_eq]; exact hn)]
  rw[if_neg hn]at q
  refine bE rfl ?_
  refine⟨_,rfl,_,rfl,(by show 3<=sizeLine; decide),fun t ht=>?_⟩
  have S1:=aJ (o:=.tup [.ref b,.int 0,.int seg]) ht
  generalize eH1:upd H t (.tup [.ref b,.int 0,.int seg])=H1 at S1 ⊢
  have g1:H1 t=some (.tup [.ref b,.int 0,.int seg]):=by rw[<- eH1]; exact aE
  have hB1:=hB.same S1
  obtain⟨kvs,h2,h3⟩:=hB1.ent
  have he:kE H1 (.ref t) (body,0,seg):=⟨t,b,rfl,g1,S1 _ _ hb⟩
  have hkl:kvs.length<sizeLine:=by rw[h3.len]; exact Nat.lt_trans hl (by decide)
  refine⟨_,rfl,bk,_,dx,_,_,rfl,S1 _ _ h1,T.cl,T.f_entries,rfl,_,rfl,de,_,rfl,tZ.k (k:=Sum.inl n) h2 hkl,?_⟩
  have hB2:=tW hB1 (h3.put (n:=n) he)
  have F2:Frm bk de dp H1 (upd H1 de (.dK (gP kvs (Sum.inl n) (.ref t)))):=tM
  generalize upd H1 de (.dK (gP kvs (Sum.inl n) (.ref t)))=H2 at hB2 F2 ⊢
  obtain⟨dx2,h12⟩:=hB2.self
  obtain⟨ps2,h42,h52⟩:=hB2.par
  refine⟨_,rfl,_,_,rfl,rfl,_,rfl,bk,_,dx2,_,rfl,h12,T.cl,T.f_upcoming,(by show 3<1000; decide),?_⟩
  exact q _ rfl _ (((aF.frm S1).trans F2 (.inl rfl)).trans x4 (.inl rfl)) (rA hB2 (n+1) h42 h52)
theorem fZ:FnScope ["self","kind","number","entry"] ["self","kind","number"] (aH sB):=‹0›
theorem CM {f:Addr} {fd:FuncData} (F:Fun K "change_entry" "Book.change_entry" sB f fd) (T:‹5›):‹7› 1 f fd ["self","kind","number"] (oQ C_Book):=by
 refine F.okX fZ (fun vs H Q E h=>?_) (fun cdv A outer s H vs Q E hr h=>?_)
 ·obtain⟨bk,de,dp,B,k,n,e,rfl,_⟩:=h
  rfl
 ·obtain⟨bk,de,dp,B,k,n,e,rfl,hB,he,hl,q⟩:=h
  refine⟨_,@aA _ _ _ _ _ (@a8 _ _ (3) _ _ _ _ fZ.nd (by rfl) (by first | exact Or.inl (by rfl) | exact Or.inr (by rfl)) (@nU _ _ _ _ _ _ (hu1 hr.units) ‹27› ‹22› (fun _ _=>rfl)) ⋯ ⋯) (@aC _ _ _ (@a9 _ _ _ _ _ _ _ _ (@aS _ _ _ _ _ _ _ _ lA ‹18› (@dW _ _ _ _) (aX _)) (@aC _ _ _ (@jX _ _ _ _ _ _ _ _ _ (hu1 hr.units) ‹27› ‹22› (@cG _ _ _ _ _ (@aM _ _ _ _ _ _ _ ‹34› (@dO _ _ _ _ _ _ _ _ (@bO _ _ _ _ _ _ _ _ cZ ‹34› ‹21›) (@aM _ _ _ _ _ _ _ ‹34› (@aB _))))) (by rfl))) (@aC _ _ _ (@a9 _ _ _ _ _ _ _ _ (@aS _ _ _ _ _ _ _ _ lA ‹18› (@dW _ _ _ _) (aX _)) (@aC _ _ _ (@jX _ _ _ _ _ _ _ _ _ (hu1 hr.units) ‹27› ‹22› (@cG _ _ _ _ _ (@aM _ _ _ _ _ _ _ ‹34› (@aO _ _ _ _ _ _ _ ‹21› (@aM _ _ _ _ _ _ _ ‹34› (@aB _))))) (by rfl))) (@aC _ _ _ (aQ (pJ K PySem.F.plainAttrs_dict PySem.F.slot_dict_pop PySem.F.type_dict_pop xR (dD (pv 0) (by rfl)) (aD (pv 2) aB)))))))),?_⟩
  obtain⟨dx,h1⟩:=hB.self
  obtain⟨kvs,h2,h3⟩:=hB.ent
  have hv:=h3.val (n:=n)
  rw[he]at hv
  obtain⟨v,hv1,t,b,rfl,gt,gb⟩:=hv
  have sq:SqT K H t [.ref b,.int e.2.1,.int e.2.2]:=SqT.of gt
  have dg:eO H de (.int n) (some (.ref t)):=by
   have:=eO.k (k:=Sum.inl n) h2
   rw[hv1]at this
   exact this
  have hkl:kvs.length<sizeLine:=by rw[h3.len]; exact Nat.lt_trans hl (by decide)
  refine⟨_,rfl,bk,_,dx,_,_,rfl,h1,T.cl,T.f_entries,rfl,_,rfl,de,_,rfl,dg,?_⟩
  refine⟨_,rfl,rfl,_,rfl,?_⟩
  by_cases k1:k = "out"
  ·rw[if_pos k1]at q
   rw[iA k1]
   refine aT ?_
   refine⟨_,rfl,t,_,_,_,rfl,rfl,sq,bP (j:=0) rfl,_,rfl,t,_,_,_,rfl,rfl,sq,bP (j:=1) rfl,_,_,rfl,rfl,_,rfl,t,_,_,_,rfl,rfl,sq,bP (j:=2) rfl,(by show 3<=sizeLine; decide),fun u hu=>?_⟩
   have S1:=aJ (o:=.tup [.ref b,.int (e.2.1+1),.int e.2.2]) hu
   generalize eH1:upd H u (.tup [.ref b,.int (e.2.1+1),.int e.2.2])=H1 at S1 ⊢
   have g1:H1 u=some (.tup [.ref b,.int (e.2.1+1),.int e.2.2]):=by rw[<- eH1]; exact aE
   have hE:kE H1 (.ref u) (e.1,e.2.1+1,e.2.2):=⟨u,b,rfl,g1,S1 _ _ gb⟩
   refine⟨_,rfl,bk,_,dx,_,_,rfl,S1 _ _ h1,T.cl,T.f_entries,rfl,_,rfl,de,_,rfl,tZ.k (k:=Sum.inl n) (S1 _ _ h2) hkl,?_⟩
   exact q _ ((aF.frm S1).trans tM (.inl rfl)) (tW (hB.same S1) ((h3.t (aF.tup S1)).put hE))
  rw[if_neg k1]at q
  rw[hZ k1]
  refine aV ⟨_,rfl,rfl,_,rfl,?_⟩
  by_cases k2:k = "new"
  ·rw[if_pos k2]at q
   rw[iA k2]
   refine aT ?_
   refine⟨_,rfl,t,_,_,_,rfl,rfl,sq,bP (j:=0) rfl,_,rfl,t,_,_,_,rfl,rfl,sq,bP (j:=2) rfl,(by show 3<=sizeLine; decide),fun u hu=>?_⟩
   have S1:=aJ (o:=.tup [.ref b,.int 0,.int e.2.2]) hu
   generalize eH1:upd H u (.tup [.ref b,.int 0,.int e.2.2])=H1 at S1 ⊢
   have g1:H1 u=some (.tup [.ref b,.int 0,.int e.2.2]):=by rw[<- eH1]; exact aE
   have hE:kE H1 (.ref u) (e.1,0,e.2.2):=⟨u,b,rfl,g1,S1 _ _ gb⟩
   refine⟨_,rfl,bk,_,dx,_,_,rfl,S1 _ _ h1,T.cl,T.f_entries,rfl,_,rfl,de,_,rfl,tZ.k (k:=Sum.inl n) (S1 _ _ h2) hkl,?_⟩
   exact q _ ((aF.frm S1).trans tM (.inl rfl)) (tW (hB.same S1) ((h3.t (aF.tup S1)).put hE))
  rw[if_neg k2]at q
  rw[hZ k2]
  refine aV ?_
  refine⟨_,rfl,bk,_,dx,_,_,rfl,h1,T.cl,T.f_entries,rfl,.inr (.inr (.inl ⟨rfl,.inl ⟨kvs,h2⟩⟩)),_,rfl,de,kvs,Sum.inl n,_,rfl,rfl,h2,hv1,?_⟩
  exact q _ tM (tW hB h3.drop)
theorem kO:FnScope ["self","number","entry"] ["self","number"] (aH r8):=‹0›
theorem CK {f:Addr} {fd:FuncData} (F:Fun K "letter" "Book.letter" r8 f fd) (T:‹5›):‹7› 1 f fd ["self","number"] (lO C_Book):=by
 refine F.okX kO (fun vs H Q E h=>?_) (fun cdv A outer s H vs Q E hr h=>?_)
 ·obtain⟨bk,de,dp,B,n,e,rfl,_⟩:=h
  rfl
 ·obtain⟨bk,de,dp,B,n,e,rfl,hB,he,q⟩:=h
  refine⟨_,@aA _ _ _ _ _ (@a8 _ _ (2) _ _ _ _ kO.nd (by rfl) (by first | exact Or.inl (by rfl) | exact Or.inr (by rfl)) ‹43› ⋯ ⋯) (@aC _ _ _ (@bA _ _ _ _ (@cG _ _ _ _ _ (@aD _ _ _ _ _ _ ‹18› (@aM _ _ _ _ _ _ _ (@c8 _ _ _ _ _ _ _ (cQ K) ‹22› ‹21› (fun _ _=>rfl)) (@aM _ _ _ _ _ _ _ (@c8 _ _ _ _ _ _ _ (cQ K) ‹22› ‹21› (fun _ _=>rfl)) (@aB _))))))),?_⟩
  obtain⟨dx,h1⟩:=hB.self
  obtain⟨kvs,h2,h3⟩:=hB.ent
  have hv:=h3.val (n:=n)
  rw[he]at hv
  obtain⟨v,hv1,t,b,rfl,gt,gb⟩:=hv
  have sq:SqT K H t [.ref b,.int e.2.1,.int e.2.2]:=SqT.of gt
  have dg:eO H de (.int n) (some (.ref t)):=by
   have:=eO.k (k:=Sum.inl n) h2
   rw[hv1]at this
   exact this
  refine⟨_,rfl,bk,_,dx,_,_,rfl,h1,T.cl,T.f_entries,rfl,_,rfl,de,_,rfl,dg,?_⟩
  refine⟨_,rfl,_,rfl,t,_,_,_,rfl,rfl,sq,bP (j:=0) rfl,_,rfl,t,_,_,_,rfl,rfl,sq,bP (j:=1) rfl,(by show 3<=sizeLine; decide),fun p hp=>?_⟩
  have S1:=aJ (o:=.tup [.int n,.ref b,.int e.2.1]) hp
  refine q p _ S1 ?_
  unfold zG
  simp only[Den,aU]
  exact⟨p,_,rfl,aE,_,_,rfl,rfl,_,_,rfl,⟨b,_,rfl,S1 _ _ gb,bR.mpr rfl⟩,_,_,rfl,rfl,rfl⟩
end
noncomputable def A4 (es:List (Int × Ent)) (n:Int):PyData:=zG n ((dQ es n).getD ([],0,0))
noncomputable def jG (C:Addr):Sp:=fun vs H Q _=>∃ (bk de dp:Addr) (B:Bk),vs=[.ref bk]/\BookAt C H bk de dp B/\B.es.length<500/\
 ∀ ms,List.Perm ms (B.es.map (·.1))->ms.Pairwise (· <= ·)->∀ p H',aF H H'->Den H' (.list (ms.map (A4 B.es))) (.ref p)->Q (.ref p) H'
noncomputable def iJ (C C_Broken:Addr):Sp:=fun vs H Q E=>∃ (bk de dp:Addr) (B:Bk) (n m seg:Int),vs=[.ref bk,.int n,.int m,.int seg]/\BookAt C H bk de dp B/\0<=n/\n<=999999/\0<=m/\m<=9/\B.es.length+B.parts.length<900/\
 (∀ B',zY B n m seg=some B'->∀ dq H',Frm bk de dp H H'->H dq=none->BookAt C H' bk de dq B'->Q .non H')/\(zY B n m seg=none->∀ H',Frm bk de dp H H'->E (.ref C_Broken) none H')
theorem zF {es:List (Int × Ent)} {n:Int} (h:n∈es.map (·.1)):∃ e,dQ es n=some e:=by
 induction es with
 | nil=>simp at h
 | cons p es ih=>
  by_cases e:p.1=n
  ·exact⟨p.2,by simp [dQ,e]⟩
  ·have:n∈es.map (·.1):=by
    rw[List.map_cons,List.mem_cons]at h
    rcases h with h | h
    ·exact absurd h.symm e
    ·exact h
   obtain⟨x,hx⟩:=ih this
   exact⟨x,by simpa [dQ,e] using hx⟩
theorem FU (n:Int) (e:Ent):l5 (zG n e)=true:=by
 have tl:∀ l:List Int,eK (l.map PyData.int)=true:=by
  intro l
  induction l with
  | nil=>rfl
  | cons x l ih=>exact ih
 unfold zG
 simp only[l5,eK,Bool.true_and,Bool.and_true]
 exact tl _
theorem Bg:∀ {H:Hp} {ds:List PyData} {ys:List V},ys.length=ds.length->(∀ (i:Nat) (y:V),ys[i]? = some y->∃ d,ds[i]? = some d/\Den H d y)->aU H ds ys
 | H,[],[],_,_=>by simp only[aU]
 | H,d::ds,y::ys,hl,h=>by
  simp only[aU]
  obtain⟨d',e,h1⟩:=h 0 y rfl
  cases (Option.some.inj e:d=d')
  exact⟨y,ys,rfl,h1,Bg (by simpa using hl) fun i z hz=>h (i+1) z hz⟩
 | H,[],y::ys,hl,_=>by simp at hl
 | H,d::ds,[],hl,_=>by simp at hl
theorem pR (ns ms:List Int):PyData.eqv (.list (ns.map .int)) (.list (ms.map .int))=decide (ns=ms):=by
 show PyData.eqvAll _ _=_
 exact PySem.W.ked_eqvAll ns ms
theorem eG (ns:List Int):SeqAt.shaped (.list (ns.map .int))=true:=by
 unfold SeqAt.shaped
 have h1:PyData.canLay0 (.list (ns.map .int))=true:=tD ns
 have h2:PyData.depth (.list (ns.map .int))=1:=by
  show PyData.depthAll (ns.map .int)+1=1
  rw[m5]
 rw[h1,h2]
 rfl
theorem sD (seg:Int):∀ {ps:List (Int × List Int)} {B B':Bk},uH seg B ps=some B'->B'.parts=B.parts
 | [],B,B',h=>by
  cases (Option.some.inj h:B=B')
  rfl
 | p::ps,B,B',h=>by
  unfold uH at h
  cases e:nT B p.1 p.2 seg with
  | none=>rw[e]at h; cases h
  | some B1=>
   rw[e]at h
   have:=sD seg h
   rw[this]
   unfold nT at e
   split at e
   ·cases e
   ·cases (Option.some.inj e)
    rfl
section
variable {P:Program} {w:World} {K:PySem.W.Frag} {mg:Str->Option Value} {base:Heap} {a_KINDS C_BadRow C_Broken C_Book:Addr}
theorem qG:FnScope ["self"] ["self"] (aH pD):=‹0›
set_option maxHeartbeats 1000000 in
theorem Aq {f:Addr} {fd:FuncData} (F:Fun K "letters" "Book.letters" pD f fd) (T:‹5›) (m_letter:‹9› C_Book "letter" 1 ["self","number"] (lO C_Book)):‹7› 2 f fd ["self"] (jG C_Book):=by
 refine F.okX qG (fun vs H Q E h=>?_) (fun cdv A outer s H vs Q E hr h=>?_)
 ·obtain⟨bk,de,dp,B,rfl,_⟩:=h
  rfl
 ·obtain⟨bk,de,dp,B,rfl,hB,hl,q⟩:=h
  refine⟨_,@aC _ _ _ (@bA _ _ _ _ (@eP _ _ _ _ _ _ _ _ _ _ _ ["number"] [("self",0)] (by rfl) (@cP _ K _ _ _ (@bC _ _ _ _ _ _ _ _ _ (@oE _ (by rfl)) (by rfl) T.n_sorted l0 ‹44› ⋯ ⋯ ⋯ ⋯) ⋯) (fun C s2 H2 ex=>(@bW _ _ (0) _ (show List.Nodup (["number","self"]:List Str) by decide +kernel) (by rfl) (Or.inl (by rfl)) ⋯)) ‹26› (fun C s2 H2 ex=>(@cB _ _ _ _ _ _ _ _ _ _ _ _ _ _ _ m_letter T.cl ‹12› aW ‹18› ‹33› ⋯ ⋯ ⋯)) ⋯ ⋯ ⋯ ⋯)),?_⟩
  obtain⟨dx,h1⟩:=hB.self
  obtain⟨kvs,h2,h3⟩:=hB.ent
  refine⟨_,rfl,bk,_,dx,_,_,rfl,h1,T.cl,T.f_entries,rfl,de,kvs,_,rfl,h2,h3.keys,by rw[List.length_map]; omega,fun p ms perm pw hp=>?_⟩
  have S1:=aJ (o:=.lst (ms.map .int)) hp
  generalize eH1:upd H p (.lst (ms.map .int))=H1 at S1 ⊢
  have g1:H1 p=some (.lst (ms.map .int)):=by rw[<- eH1]; exact aE
  have lm:(ms.map V.int).length=ms.length:=List.length_map _
  have pl:=perm.length_eq
  rw[List.length_map]at pl
  refine⟨p,rfl,⟨_,SqL.of g1⟩,?_⟩
  refine fE (cO (K:=K) (SqL.of g1)) ?zl (fun i y H'=>∃ n,ms[i]? = some n/\Den H' (A4 B.es n) y) (fun i y H1 H2 s h=>by obtain⟨n,e,h⟩:=h; exact⟨n,e,h.n s (FU _ _)⟩) (fun σ=>∃ z,σ = [z,some (.ref bk)]) ?z0 ?_ ?_
  case zl=>
   rw[lm,pl]
   exact Nat.le_of_lt (Nat.lt_trans hl (by decide))
  case z0=>exact⟨none,rfl⟩
  ·intro i x σc H3 hi hσ s3 hx Q' hQ'
   obtain⟨z,rfl⟩:=hσ
   rw[List.getElem?_map]at hx
   cases e:ms[i]? with
   | none=>rw[e]at hx; cases hx
   | some n=>
    rw[e]at hx
    cases hx
    have hin:n∈B.es.map (·.1):=perm.mem_iff.mp (List.mem_of_getElem? e)
    obtain⟨en,hen⟩:=zF hin
    have S13:aF H H3:=S1.trans s3
    refine⟨_,rfl,bk,dx,_,rfl,S13 _ _ h1,rfl,_,rfl,bk,de,dp,B,n,en,rfl,hB.same S13,hen,fun p4 H4 S4 d4=>?_⟩
    refine hQ' _ _ _ ⟨_,rfl⟩ S4 ⟨n,e,?_⟩
    unfold A4
    rw[hen]
    exact d4
  ·intro D ys H' hD s' hD' hlen hR
   refine q ms perm pw D H' (S1.trans s') ?_
   simp only[Den]
   refine⟨D,ys,rfl,hD',Bg (by rw[List.length_map,hlen,lm]) fun i y e=>?_⟩
   obtain⟨n,e1,e2⟩:=hR i y e
   exact⟨_,by rw[List.getElem?_map,e1]; rfl,e2⟩
theorem eS:FnScope ["self","number","many","segment","parts","part"] ["self","number","many","segment"] (aH jO):=‹0›
set_option maxHeartbeats 1000000 in
theorem uJ {f:Addr} {fd:FuncData} (F:Fun K "enter_deal" "Book.enter_deal" jO f fd) (T:‹5›) (m_enter_put:‹9› C_Book "enter_put" 1 ["self","number","body","segment"] (gJ C_Book C_Broken)):‹7› 2 f fd ["self","number","many","segment"] (iJ C_Book C_Broken):=by
 refine F.okX eS (fun vs H Q E h=>?_) (fun cdv A outer s H vs Q E hr h=>?_)
 ·obtain⟨bk,de,dp,B,n,m,seg,rfl,_⟩:=h
  rfl
 ·obtain⟨bk,de,dp,B,n,m,seg,rfl,hB,n0,n9,m0,m9,hl,q,qe⟩:=h
  refine⟨_,@aA _ _ _ _ _ (@a8 _ _ (4) _ _ _ _ eS.nd (by rfl) (by first | exact Or.inl (by rfl) | exact Or.inr (by rfl)) ‹27› ⋯ ⋯) (@aA _ _ _ _ _ (@cT _ _ _ _ _ _ _ _ ‹17› (@iS _ _ _ _ (@aB _)) (by rfl)) (@aA _ _ _ _ _ (@a9 _ _ _ _ _ _ _ _ (@aS _ _ _ _ _ _ _ _ (xG hr.units) (@eP _ _ _ _ _ _ _ _ _ _ _ ["part"] [] (by rfl) (@cP _ K _ _ _ ‹25› ⋯) (fun C s2 H2 ex=>(@bW _ _ (0) _ (show List.Nodup (["part"]:List Str) by decide +kernel) (by rfl) (Or.inl (by rfl)) ⋯)) ‹26› (fun C s2 H2 ex=>‹30›) ⋯ ⋯ ⋯ ⋯) (@Ae _ _ _ _ _ _ _ _ (by rfl) (by rfl) T.n_list (by rfl) T.n_range (@aD _ _ _ _ _ _ ‹18› (@dO _ _ _ _ _ _ _ _ (@bO _ _ _ _ _ _ _ _ cZ ‹18› ‹22›) (@aB _))) ⋯ ⋯ ⋯) (aX _)) ‹19› (@aP _)) (@aC _ _ _ (@jW _ _ _ _ _ _ _ _ (qH fM) (by rfl) (@cP _ K _ _ _ ‹25› ⋯) (@bW _ _ (5) _ eS.nd (by rfl) (by first | exact Or.inl (by rfl) | exact Or.inr (by rfl)) ⋯) (@aC _ _ _ (aQ (cB m_enter_put T.cl ‹12› bK (pv 0) (aM (c8 (cQ K) (pv 5) jY (fun _ _=>rfl)) (aM (c8 (cQ K) (pv 5) jY (fun _ _=>rfl)) (aD (pv 3) aB)))))) ⋯)))),?_⟩
  obtain⟨dx,h1⟩:=hB.self
  obtain⟨ps,h4,h5⟩:=hB.par
  obtain⟨ne1,ne2,ne3⟩:=hB.ne
  refine⟨_,rfl,bk,_,dx,_,_,rfl,h1,T.cl,T.f_parts,rfl,?_⟩
  refine⟨(by show 0<=sizeLine; decide),fun dq hdq=>?_⟩
  have S1:=aJ (o:=.lst []) hdq
  generalize eH1:upd H dq (.lst [])=H1 at S1 ⊢
  have g1:H1 dq=some (.lst []):=by rw[<- eH1]; exact aE
  refine⟨_,rfl,bk,_,dx,_,rfl,S1 _ _ h1,T.cl,T.f_parts,(by show 3<1000; decide),?_⟩
  have hB2:=rA (hB.same S1) (dx:=dx) B.up (parts:=[]) g1 (by simp only[eT,List.map_nil,aU])
  have F2:Frm bk de dp H (upd H1 bk (.ins C_Book dx (bkF de dq B.up))):=(aF.frm S1).trans x4 (.inl rfl)
  have g2:upd H1 bk (.ins C_Book dx (bkF de dq B.up)) dp=some (.lst ps):=by rw[aG (Ne.symm ne2)]; exact S1 _ _ h4
  have T2:gC H (upd H1 bk (.ins C_Book dx (bkF de dq B.up))):=hB.tup F2
  rw[Ab]
  generalize upd H1 bk (.ins C_Book dx (bkF de dq B.up))=H2 at hB2 F2 g2 T2 ⊢
  have d2:aU H2 (eT B.parts) ps:=m6 T2 (gR _) h5
  have lp:ps.length=B.parts.length:=by rw[h5.length]; unfold eT; rw[List.length_map]
  have hdq0:dq≠dp:=fun z=>by rw[z,h4]at hdq; cases hdq
  refine⟨_,rfl,dp,rfl,⟨_,SqL.of g2⟩,?_⟩
  refine fE (cO (K:=K) (SqL.of g2)) ?zl (fun i y _=>∃ p,B.parts[i]? = some p/\y = .int p.1) (fun i y H1 H2 s h=>h) (fun σ=>σ.length=1) ?z0 ?_ ?_
  case zl=>
   rw[lp]
   exact Nat.le_of_lt (Nat.lt_trans (show _<900 by omega) (by decide))
  case z0=>rfl
  ·intro i x σc H3 hi hσ s3 hx Q' hQ'
   obtain⟨d,hd,dn⟩:=d2.get hx
   unfold eT at hd
   rw[List.getElem?_map]at hd
   cases e:B.parts[i]? with
   | none=>rw[e]at hd; cases hd
   | some pr=>
    rw[e]at hd
    cases (Option.some.inj hd:gN "part" pr.1 pr.2=d)
    have dn':=dn.same s3
    unfold gN at dn'
    simp only[Den,aU]at dn'
    obtain⟨t,xt,rfl,gt,y0,r0,f0,f1,y1,r1,f2,f3,y2,r2,f4,⟨pb,yb,f5,gb,db⟩,f6⟩:=dn'
    subst f6 f5 f4 f3 f2 f1 f0
    match σc,hσ with
    | [z],_=>
     refine⟨_,rfl,t,_,_,_,rfl,rfl,SqT.of gt,bP (j:=1) rfl,?_⟩
     exact hQ' _ _ _ rfl (aF.refl _) ⟨pr,e,rfl⟩
  intro D ys H3 hD S3 g3 hlen hR
  have ey:ys=(B.parts.map (·.1)).map V.int:=by
   apply List.ext_getElem?
   intro i
   cases e:ys[i]? with
   | none=>
    have:ys.length<=i:=List.getElem?_eq_none_iff.mp e
    rw[List.getElem?_eq_none (by rw[List.length_map,List.length_map]; omega)]
   | some y=>
    obtain⟨p,e1,e2⟩:=hR i y e
    rw[List.getElem?_map,List.getElem?_map,e1,e2]
    rfl
  have hmz:(n+m - n).toNat=m.toNat:=by omega
  refine⟨_,rfl,_,rfl,_,rfl,_,_,rfl,rfl,n,n+m,rfl,⟨by omega,by omega,by omega,by omega⟩,Nat.le_trans (show _<=9 by omega) (by decide),fun p4 hp4=>?_⟩
  rw[hmz]
  have er:((List.range m.toNat).map fun(k:Nat)=>V.int (n+(k:Int)))=((List.range m.toNat).map fun(k:Nat)=>n+(k:Int)).map V.int:=by rw[List.map_map]; rfl
  rw[er]
  have S4:=aJ (o:=.lst (((List.range m.toNat).map fun(k:Nat)=>n+(k:Int)).map V.int)) hp4
  generalize eH4:upd H3 p4 (.lst (((List.range m.toNat).map fun(k:Nat)=>n+(k:Int)).map V.int))=H4 at S4 ⊢
  have g4:H4 p4=some (.lst (((List.range m.toNat).map fun(k:Nat)=>n+(k:Int)).map V.int)):=by rw[<- eH4]; exact aE
  have dA:Den H4 (.list ((B.parts.map (·.1)).map .int)) (.ref D):=by
   simp only[Den]
   exact⟨D,ys,rfl,S4 _ _ g3,by rw[ey]; exact bR.mpr rfl⟩
  have dB:Den H4 (.list (((List.range m.toNat).map fun(k:Nat)=>n+(k:Int)).map .int)) (.ref p4):=by
   simp only[Den]
   exact⟨p4,_,rfl,g4,bR.mpr rfl⟩
  refine⟨_,_,dA,dB,eG _,eG _,_,rfl,?_⟩
  rw[pR]
  have F4:Frm bk de dp H H4:=F2.trans (aF.frm (S3.trans S4)) (.inl rfl)
  unfold zY at q qe
  by_cases hc:B.parts.map (·.1)=(List.range m.toNat).map fun(k:Nat)=>n+(k:Int)
  case neg=>
   rw[if_neg hc]at qe
   rw[decide_eq_false hc]
   exact aT ⟨(by show 1<=sizeLine; decide),qe rfl H4 F4⟩
  rw[if_pos hc]at q qe
  rw[decide_eq_true hc]
  refine aV ?_
  refine bE rfl ?_
  have hB4:=hB2.same (S3.trans S4)
  have gd4:H4 dp=some (.lst ps):=S4 _ _ (S3 _ _ g2)
  have d4:aU H4 (eT B.parts) ps:=(d2.same S3).same S4
  refine⟨_,rfl,dp,rfl,⟨_,SqL.of gd4⟩,?_⟩
  have sq0:SqL K (fun a=>if a=dp then some (.lst ps) else none) dp ps:=SqL.of (if_pos rfl)
  refine fB (H0:=fun a=>if a=dp then some (.lst ps) else none) (cO (K:=K) sq0) (fun i σ H'=>H' dp=some (.lst ps)/\gC H4 H'/\Frm bk de dp H H'/\i<=B.parts.length/\∃ Bi z5,BookAt C_Book H' bk de dq Bi/\Bi.es.length<=B.es.length+i/\uH seg ⟨B.es,B.up,[]⟩ B.parts=uH seg Bi (B.parts.drop i)/\σ = [some (.ref bk),some (.int n),some (.int m),some (.int seg),some (.ref dp),z5]) ?i0 ?kp ?_ ?_
  case i0=>exact⟨gd4,fun _ _ e=>e,F4,Nat.zero_le _,_,none,hB4,Nat.le_refl _,rfl,rfl⟩
  case kp=>
   intro i σ H' h b o e
   by_cases z:b=dp
   ·subst z
    have e:some (HO.lst ps)=some o:=by simpa using e
    rw[<- e]
    exact h.1
   ·have e:none=some o:=by simpa [z] using e
    cases e
  ·rintro i x σ H5 H6 hi ⟨gd5,t5,f5,hiL,Bi,z5,hBi,hle,hpu,rfl⟩ s6 hx
   obtain⟨d,hd,dn⟩:=d4.get hx
   unfold eT at hd
   rw[List.getElem?_map]at hd
   cases e:B.parts[i]? with
   | none=>rw[e]at hd; cases hd
   | some pr=>
    rw[e]at hd
    cases (Option.some.inj hd:gN "part" pr.1 pr.2=d)
    have dn':=Bh (t5.trans (aF.tup s6)) (qP _ _ _) dn
    unfold gN at dn'
    simp only[Den,aU]at dn'
    obtain⟨t,xt,rfl,gt,y0,r0,f0,f1,y1,r1,f2,f3,y2,r2,f4,⟨pb,yb,f5',gb,db⟩,f6⟩:=dn'
    have eb:=bR.mp db
    subst eb f6 f5' f4 f3 f2 f1 f0
    have iL:i<B.parts.length:=(List.getElem?_eq_some_iff.mp e).1
    have ed:B.parts.drop i=pr::B.parts.drop (i+1):=by
     rw[List.drop_eq_getElem_cons iL]
     have:=(List.getElem?_eq_some_iff.mp e).2
     rw[this]
    rw[ed]at hpu
    have hB6:=hBi.same s6
    obtain⟨dx6,h16⟩:=hB6.self
    refine⟨_,rfl,bk,dx6,_,rfl,h16,rfl,_,rfl,t,_,_,_,rfl,rfl,SqT.of gt,bP (j:=1) rfl,_,rfl,t,_,_,_,rfl,rfl,SqT.of gt,bP (j:=2) rfl,_,rfl,bk,de,dq,pb,Bi,pr.1,seg,pr.2,rfl,hB6,gb,by omega,fun B' hB' H7 f7 hB7=>?_,fun hn H7 f7=>?_⟩
    ·have hdq':dq=dp\/H dq=none:=.inr hdq
     have f67:Frm bk de dp H H7:=(f5.trans (aF.frm (dp:=dp) s6) (.inl rfl)).trans f7 hdq'
     refine⟨f7 _ _ (s6 _ _ gd5) (Ne.symm ne2) (fun z=>ne3 z.symm) (Ne.symm hdq0),(t5.trans (aF.tup s6)).trans (hB6.tup f7),f67,iL,B',_,hB7,?_,?_,rfl⟩
     ·unfold nT at hB'
      split at hB'
      ·cases hB'
      ·cases (Option.some.inj hB')
       have:=iY Bi.es pr.1 (pr.2,0,seg)
       show (iZ Bi.es pr.1 (pr.2,0,seg)).length<=_
       omega
     ·rw[hpu]
      show (match nT Bi pr.1 pr.2 seg with | none=>none | some B'=>uH seg B' (B.parts.drop (i+1)))=_
      rw[hB']
    ·refine qe ?_ H7 ((f5.trans (aF.frm (dp:=dp) s6) (.inl rfl)).trans f7 (.inr hdq))
     rw[hpu]
     show (match nT Bi pr.1 pr.2 seg with | none=>none | some B'=>uH seg B' (B.parts.drop (i+1)))=none
     rw[hn]
  ·rintro σ H5 ⟨gd5,t5,f5,hiL,Bi,z5,hBi,hle,hpu,rfl⟩
   rw[lp,List.drop_of_length_le (Nat.le_refl _)]at hpu
   exact q Bi hpu dq H5 f5 hdq hBi
end
noncomputable def nI (C C_Broken:Addr):Sp:=fun vs H Q E=>∃ (bk de dp pr:Addr) (B:Bk) (k:Str) (n seg:Int) (body:List Int),vs=[.ref bk,.ref pr,.int seg]/\BookAt C H bk de dp B/\Den H (gN k n body) (.ref pr)/\aZ (gN k n body)=true/\B.es.length+B.parts.length<900/\
 (∀ B',dG B k n body seg=some B'->∀ dq H',Frm bk de dp H H'->(dq=dp\/H dq=none)->BookAt C H' bk de dq B'->Q .non H')/\(dG B k n body seg=none->∀ H',Frm bk de dp H H'->E (.ref C_Broken) none H')
noncomputable def wJ (C:Addr):Sp:=fun vs H Q _=>∃ (bk dx:Addr),vs=[.ref bk]/\H bk=some (.ins C dx [])/\∀ de dp H',(∀ b o,H b=some o->b≠bk->H' b=some o)->H de=none->H dp=none->BookAt C H' bk de dp ⟨[],0,[]⟩->Q .non H'
theorem B8 {k:Str} {n:Int} {body:List Int} (h:aZ (gN k n body)=true):k∈cD/\0<=n/\n<=999999/\(k = "deal"->1<=body.length/\1<=body.getD 0 0/\body.getD 0 0<=9)/\(k = "carried"->1<=body.length)/\body.length<=61:=by
 unfold gN at h
 simp only[aZ,Bool.and_eq_true]at h
 obtain⟨h1,h2,h3,h4⟩:=h
 rw[eN]at h4
 simp only[bH,Bool.and_eq_true,decide_eq_true_eq]at h2
 refine⟨by simpa using h1,h2.1,h2.2,?_,?_,?_⟩
 ·rintro rfl
  unfold gG at h4
  rw[if_neg (by decide),if_neg (by decide),if_pos rfl]at h4
  simp only[Bool.and_eq_true,decide_eq_true_eq]at h4
  obtain⟨⟨l1,l2⟩,l3⟩:=h4
  match body,l1,l2,l3 with
  | [x],_,l2,l3=>exact⟨Nat.le_refl _,l2,l3⟩
 ·rintro rfl
  unfold gG at h4
  rw[if_neg (by decide),if_pos rfl]at h4
  simp only[Bool.and_eq_true,decide_eq_true_eq]at h4
  exact h4.1.1
 ·unfold gG at h4
  split at h4
  ·have:=of_decide_eq_true h4
   omega
  ·split at h4
   ·simp only[Bool.and_eq_true,decide_eq_true_eq]at h4
    omega
   ·split at h4
    ·simp only[Bool.and_eq_true,decide_eq_true_eq]at h4
     omega
    ·have:=of_decide_eq_true h4
     omega
theorem Cp {xs:List V} (h:1<=xs.length):fN xs (some 1) none=xs.drop 1:=by
 unfold fN
 have e:HT.sIx xs.length 0 (some 1)=1:=(HT.iF xs.length 0 1).trans (Nat.min_eq_left h)
 rw[e,HT.nP,List.take_of_length_le (by rw[List.length_drop]; omega)]
section
variable {P:Program} {w:World} {K:PySem.W.Frag} {mg:Str->Option Value} {base:Heap} {a_KINDS C_BadRow C_Broken C_Book:Addr}
theorem oY:FnScope ["self"] ["self"] (aH AV):=‹0›
theorem FM {f:Addr} {fd:FuncData} (F:Fun K "__init__" "Book.__init__" AV f fd) (T:‹5›):‹7› 1 f fd ["self"] (wJ C_Book):=by
 refine F.okX oY (fun vs H Q E h=>?_) (fun cdv A outer s H vs Q E hr h=>?_)
 ·obtain⟨bk,dx,rfl,_⟩:=h
  rfl
 ·obtain⟨bk,dx,rfl,h1,q⟩:=h
  refine⟨_,@aA _ _ _ _ _ (@cT _ _ _ _ _ _ _ _ ‹17› (@sJ _ _) (by rfl)) (@aA _ _ _ _ _ (@cT _ _ _ _ _ _ _ _ ‹17› ‹21› (by rfl)) (@aC _ _ _ (@cT _ _ _ _ _ _ _ _ ‹17› (@iS _ _ _ _ (@aB _)) (by rfl)))),?_⟩
  refine fun de hde=>?_
  have nde:bk≠de:=fun z=>by rw[z,hde]at h1; cases h1
  refine⟨_,rfl,bk,_,dx,_,rfl,by rw[aG nde]; exact h1,T.cl,T.f_entries,(by show 0<1000; decide),?_⟩
  refine⟨_,rfl,bk,_,dx,_,rfl,aE,T.cl,T.f_upcoming,(by show 1<1000; decide),?_⟩
  refine⟨(by show 0<=sizeLine; decide),fun dp hdp=>?_⟩
  generalize eH1:upd (upd (upd H de (.dK [])) bk (.ins C_Book dx (cA "entries" (.ref de) []))) bk (.ins C_Book dx (cA "upcoming" (.int 0) (cA "entries" (.ref de) [])))=H1 at hdp ⊢
  have k1:H1 bk=some (.ins C_Book dx (cA "upcoming" (.int 0) (cA "entries" (.ref de) []))):=by rw[<- eH1]; exact aE
  have k2:H1 de=some (.dK []):=by rw[<- eH1,aG (Ne.symm nde),aG (Ne.symm nde)]; exact aE
  have k3:∀ b o,H b=some o->b≠bk->H1 b=some o:=fun b o e nb=>by
   rw[<- eH1,aG nb,aG nb,aG (fun z=>by rw[z,hde]at e; cases e)]
   exact e
  have ndp:bk≠dp:=fun z=>by rw[<- z,k1]at hdp; cases hdp
  have nd2:de≠dp:=fun z=>by rw[<- z,k2]at hdp; cases hdp
  have hdp0:H dp=none:=by
   cases e:H dp with
   | none=>rfl
   | some o=>rw[k3 dp o e (Ne.symm ndp)]at hdp; cases hdp
  refine⟨_,rfl,bk,_,dx,_,rfl,by rw[aG ndp]; exact k1,T.cl,T.f_parts,(by show 2<1000; decide),?_⟩
  refine q de dp _ (fun b o e nb=>?_) hde hdp0 ⟨⟨dx,?_⟩,⟨[],?_,trivial⟩,⟨[],?_,by simp only[eT,List.map_nil,aU]⟩⟩
  ·rw[aG nb,aG (fun z=>by rw[z,hdp0]at e; cases e)]
   exact k3 b o e nb
  ·rw[aE]
   rfl
  ·rw[aG (Ne.symm nde),aG nd2]
   exact k2
  ·rw[aG (Ne.symm ndp)]
   exact aE
theorem fQ:FnScope ["self","row","segment","kind","number","body"] ["self","row","segment"] (aH wZ):=‹0›
set_option maxHeartbeats 2000000 in
theorem Dh {f:Addr} {fd:FuncData} (F:Fun K "enter" "Book.enter" wZ f fd) (T:‹5›) (m_enter_put:‹9› C_Book "enter_put" 1 ["self","number","body","segment"] (gJ C_Book C_Broken))
  (m_enter_deal:‹9› C_Book "enter_deal" 2 ["self","number","many","segment"] (iJ C_Book C_Broken)) (m_change_entry:‹9› C_Book "change_entry" 1 ["self","kind","number"] (oQ C_Book)):‹7› 3 f fd ["self","row","segment"] (nI C_Book C_Broken):=by
 refine F.okX fQ (fun vs H Q E h=>?_) (fun cdv A outer s H vs Q E hr h=>?_)
 ·obtain⟨bk,de,dp,pr,B,k,n,seg,body,rfl,_⟩:=h
  rfl
 ·obtain⟨bk,de,dp,pr,B,k,n,seg,body,rfl,hB,hd,hrow,hl,q,qe⟩:=h
  refine⟨_,@aA _ _ _ _ _ (@a8 _ _ (3) _ _ _ _ fQ.nd (by rfl) (by first | exact Or.inl (by rfl) | exact Or.inr (by rfl)) ‹29› ⋯ ⋯) (@aA _ _ _ _ _ (@a8 _ _ (4) _ _ _ _ fQ.nd (by rfl) (by first | exact Or.inl (by rfl) | exact Or.inr (by rfl)) ‹29› ⋯ ⋯) (@aA _ _ _ _ _ (@a8 _ _ (5) _ _ _ _ fQ.nd (by rfl) (by first | exact Or.inl (by rfl) | exact Or.inr (by rfl)) ‹29› ⋯ ⋯) (@aC _ _ _ (@a9 _ _ _ _ _ _ _ _ ‹37› (@aC _ _ _ (aQ (pJ K PySem.F.plainAttrs_list PySem.F.slot_list_append PySem.F.type_list_append lT (dD (pv 0) (by rfl)) (aD (pv 1) aB)))) (@aC _ _ _ (@a9 _ _ _ _ _ _ _ _ ‹37› (@aC _ _ _ (aQ (cB m_enter_deal T.cl ‹12› bK (pv 0) (aD (pv 4) (aM (c8 (cQ K) (pv 5) jY (fun _ _=>rfl)) (aD (pv 2) aB)))))) (@aC _ _ _ (@a9 _ _ _ _ _ _ _ _ (@e8 _ K _ _ ‹27› ⋯ ⋯) ‹19› (@aC _ _ _ (@a9 _ _ _ _ _ _ _ _ ‹37› (@aC _ _ _ (aQ (cB m_enter_put T.cl ‹12› bK (pv 0) (aD (pv 4) (aD (pv 5) (aD (pv 2) aB)))))) (@aC _ _ _ (@a9 _ _ _ _ _ _ _ _ ‹37› (@aC _ _ _ (@cT _ _ _ _ _ _ _ _ ‹17› (@bC _ _ _ _ _ _ _ _ _ (vX (by rfl)) (by rfl) T.n_max EX (@cV _ _ _ _ _ _ _ ‹27› (@aD _ _ _ _ _ _ ‹25› (@aB _))) ⋯ ⋯ ⋯ ⋯) (by rfl))) (@aC _ _ _ (@a9 _ _ _ _ _ _ _ _ ‹37› (@aA _ _ _ _ _ (@jX _ _ _ _ _ _ _ _ _ (hu1 hr.units) ‹27› ‹25› (@cG _ _ _ _ _ (@aM _ _ _ _ _ _ _ (@e9 _ _ _ _ _ _ _ _ _ _ (nK K) (@pv _ 5 _ _ ⋯ ⋯ ⋯ ⋯) (@fR _ _ _ ‹21›) (@iG _)) (@aM _ _ _ _ _ _ _ (@c8 _ _ _ _ _ _ _ (cQ K) (@pv _ 5 _ _ ⋯ ⋯ ⋯ ⋯) ‹21› (fun _ _=>rfl)) ‹41›))) (by rfl)) (@aC _ _ _ (@cT _ _ _ _ _ _ _ _ ‹17› (@bC _ _ _ _ _ _ _ _ _ (vX (by rfl)) (by rfl) T.n_max EX (@cV _ _ _ _ _ _ _ ‹27› (@dO _ _ _ _ _ _ _ _ (@bO _ _ _ _ _ _ _ _ cZ ‹25› ‹21›) (@aB _))) ⋯ ⋯ ⋯ ⋯) (by rfl)))) (@aC _ _ _ (@a9 _ _ _ _ _ _ _ _ (@sF _ _ _ _ _ _ (@Dc _ _ _ _ _ (hu1 hr.units) ‹25› ‹27›) ⋯) (@aC _ _ _ (aQ (cB m_change_entry T.cl ‹12› aW (pv 0) (aD (pv 3) (aD (pv 4) aB))))) (@aP _))))))))))))))))),?_⟩
  obtain⟨hk,n0,n9,hdeal,hcar,hbl⟩:=B8 hrow
  obtain⟨dx,h1⟩:=hB.self
  obtain⟨kvs,h2,h3⟩:=hB.ent
  obtain⟨ps,h4,h5⟩:=hB.par
  have hd':=hd
  unfold gN at hd'
  simp only[Den,aU]at hd'
  obtain⟨t,xt,et,gt,y0,r0,f0,f1,y1,r1,f2,f3,y2,r2,f4,⟨pb,yb,f5,gb,db⟩,f6⟩:=hd'
  have eb:=bR.mp db
  cases et
  subst eb f6 f5 f4 f3 f2 f1 f0
  have sq:SqT K H pr [.str k,.int n,.ref pb]:=SqT.of gt
  have sqb:SqT K H pb (body.map V.int):=SqT.of gb
  have lp:ps.length=B.parts.length:=by rw[h5.length]; unfold eT; rw[List.length_map]
  have hkl:kvs.length<sizeLine:=by rw[h3.len]; exact Nat.lt_trans (show _<900 by omega) (by decide)
  refine⟨_,rfl,pr,_,_,_,rfl,rfl,sq,bP (j:=0) rfl,_,rfl,pr,_,_,_,rfl,rfl,sq,bP (j:=1) rfl,_,rfl,pr,_,_,_,rfl,rfl,sq,bP (j:=2) rfl,?_⟩
  unfold dG at q qe
  refine⟨_,rfl,rfl,_,rfl,?_⟩
  by_cases k1:k = "part"
  ·rw[if_pos k1]at q
   rw[iA k1]
   refine aT ?_
   refine⟨_,rfl,bk,_,dx,_,_,rfl,h1,T.cl,T.f_parts,rfl,.inl ⟨rfl,_,SqL.of h4⟩,_,rfl,dp,_,_,rfl,rfl,h4,by rw[lp]; exact Nat.lt_trans (show _<900 by omega) (by decide),?_⟩
   refine q _ rfl dp _ Gg (.inl rfl) (Gm hB ?_)
   show aU H (eT (B.parts++[(n,body)])) (ps++[.ref pr])
   unfold eT
   rw[List.map_append]
   refine h5.app (zW ?_)
   rw[<- k1]
   exact hd
  rw[if_neg k1]at q qe
  rw[hZ k1]
  refine aV ⟨_,rfl,rfl,_,rfl,?_⟩
  by_cases k2:k = "deal"
  ·rw[if_pos k2]at q qe
   rw[iA k2]
   refine aT ?_
   obtain⟨b1,b2,b3⟩:=hdeal k2
   have at0:atI (body.map V.int) 0=some (.int (body.getD 0 0)):=by
    refine bP (j:=0) ?_
    rw[List.getElem?_map,List.getD_eq_getElem?_getD,List.getElem?_eq_getElem (by omega)]
    rfl
   refine⟨_,rfl,bk,dx,_,rfl,h1,rfl,_,rfl,_,rfl,pb,_,_,_,rfl,rfl,sqb,at0,_,rfl,bk,de,dp,B,n,body.getD 0 0,seg,rfl,hB,n0,n9,by omega,b3,hl,fun B' hB' dq H' f' hq h'=>q B' hB' dq H' f' (.inr hq) h',fun hn H' f'=>qe hn H' f'⟩
  rw[if_neg k2]at q qe
  rw[hZ k2]
  refine aV ?_
  refine⟨_,rfl,bk,_,dx,_,_,rfl,h1,T.cl,T.f_parts,rfl,dp,ps,rfl,SqL.of h4,?_⟩
  by_cases kp:B.parts=[]
  case neg=>
   rw[if_pos kp]at qe
   have:(!ps.isEmpty)=true:=by
    cases ps with
    | nil=>
     rw[List.length_nil]at lp
     exact absurd (List.length_eq_zero_iff.mp lp.symm) kp
    | cons _ _=>rfl
   rw[this]
   exact aT ⟨(by show 1<=sizeLine; decide),qe rfl H (Frm.refl _ _ _ _)⟩
  rw[if_neg (fun z=>z kp)]at q qe
  have:(!ps.isEmpty)=false:=by
   cases ps with
   | nil=>rfl
   | cons _ _=>
    rw[kp]at lp
    simp at lp
  rw[this]
  refine aV ⟨_,rfl,rfl,_,rfl,?_⟩
  by_cases k3:k = "put"
  ·rw[if_pos k3]at q qe
   rw[iA k3]
   refine aT ?_
   refine⟨_,rfl,bk,dx,_,rfl,h1,rfl,_,rfl,_,rfl,_,rfl,bk,de,dp,pb,B,n,seg,body,rfl,hB,gb,by omega,fun B' hB' H' f' h'=>q B' hB' dp H' f' (.inl rfl) h',fun hn H' f'=>qe hn H' f'⟩
  rw[if_neg k3]at q qe
  rw[hZ k3]
  refine aV ⟨_,rfl,rfl,_,rfl,?_⟩
  by_cases k4:k = "from"
  ·rw[if_pos k4]at q
   rw[iA k4]
   refine aT ?_
   refine⟨_,rfl,bk,_,dx,_,_,rfl,h1,T.cl,T.f_upcoming,rfl,_,rfl,_,_,rfl,_,rfl,bk,_,dx,_,rfl,h1,T.cl,T.f_upcoming,(by show 3<1000; decide),?_⟩
   exact q _ rfl dp _ x4 (.inl rfl) (rA hB (FT B.up n) h4 h5)
  rw[if_neg k4]at q qe
  rw[hZ k4]
  refine aV ⟨_,rfl,rfl,_,rfl,?_⟩
  by_cases k5:k = "carried"
  ·rw[if_pos k5]at q
   rw[iA k5]
   refine aT ?_
   have b1:=hcar k5
   have at0:atI (body.map V.int) 0=some (.int (body.getD 0 0)):=by
    refine bP (j:=0) ?_
    rw[List.getElem?_map,List.getD_eq_getElem?_getD,List.getElem?_eq_getElem (by omega)]
    rfl
   refine⟨_,rfl,_,rfl,?_⟩
   dsimp only[wF]
   refine BN gb fun p5 H5 S5 g5=>?_
   rw[Cp (by rw[List.length_map]; exact b1),<- List.map_drop]at g5
   refine⟨_,rfl,pb,_,_,_,rfl,rfl,S5.seqT sqb,at0,_,rfl,(by show 3<=sizeLine; decide),fun u hu=>?_⟩
   have S6:=aJ (o:=.tup [.ref p5,.int (body.getD 0 0),.int seg]) hu
   generalize eH6:upd H5 u (.tup [.ref p5,.int (body.getD 0 0),.int seg])=H6 at S6 ⊢
   have g6:H6 u=some (.tup [.ref p5,.int (body.getD 0 0),.int seg]):=by rw[<- eH6]; exact aE
   have S06:aF H H6:=S5.trans S6
   have hE:kE H6 (.ref u) (body.drop 1,body.getD 0 0,seg):=⟨u,p5,rfl,g6,S6 _ _ g5⟩
   refine⟨_,rfl,bk,_,dx,_,_,rfl,S06 _ _ h1,T.cl,T.f_entries,rfl,_,rfl,de,_,rfl,tZ.k (k:=Sum.inl n) (S06 _ _ h2) hkl,?_⟩
   have hB7:=tW (hB.same S06) ((h3.t (aF.tup S06)).put (n:=n) hE)
   have F7:Frm bk de dp H6 (upd H6 de (.dK (gP kvs (Sum.inl n) (.ref u)))):=tM
   generalize upd H6 de (.dK (gP kvs (Sum.inl n) (.ref u)))=H7 at hB7 F7 ⊢
   obtain⟨dx7,h17⟩:=hB7.self
   obtain⟨ps7,h47,h57⟩:=hB7.par
   refine⟨_,rfl,bk,_,dx7,_,_,rfl,h17,T.cl,T.f_upcoming,rfl,_,rfl,_,_,rfl,rfl,_,_,rfl,_,rfl,bk,_,dx7,_,rfl,h17,T.cl,T.f_upcoming,(by show 3<1000; decide),?_⟩
   exact q _ rfl dp _ (((aF.frm S06).trans F7 (.inl rfl)).trans x4 (.inl rfl)) (.inl rfl) (rA hB7 (FT B.up (n+1)) h47 h57)
  rw[if_neg k5]at q qe
  rw[hZ k5]
  refine aV ?_
  refine⟨_,rfl,_,rfl,bk,_,dx,_,_,rfl,h1,T.cl,T.f_entries,rfl,de,_,rfl,eO.k (k:=Sum.inl n) h2,_,rfl,?_⟩
  have hv:=h3.val (n:=n)
  cases he:dQ B.es n with
  | none=>
   rw[he]at hv q
   have hv:eE kvs (Sum.inl n)=none:=hv
   rw[hv]
   refine aV ?_
   exact q B rfl dp H (Frm.refl _ _ _ _) (.inl rfl) hB
  | some e=>
   rw[he]at hv q
   obtain⟨v,hv1,_⟩:=hv
   rw[hv1]
   refine aT ?_
   refine⟨_,rfl,bk,dx,_,rfl,h1,rfl,_,rfl,_,rfl,bk,de,dp,B,k,n,e,rfl,hB,he,by omega,fun H' f' h'=>?_⟩
   refine q _ ?_ dp H' f' (.inl rfl) h'
   dsimp only
   split
   ·rfl
   ·split <;> rfl
end
noncomputable abbrev Rw:=Str × Int × List Int
noncomputable def cS (r:Rw):PyData:=gN r.1 r.2.1 r.2.2
noncomputable def dF (seg:Int):Bk->List Rw->Option Bk
 | B,[]=>some B
 | B,r::rs=>match dG B r.1 r.2.1 r.2.2 seg with
  | none=>none
  | some B'=>dF seg B' rs
theorem vB (seg:Int):∀ {ps:List (Int × List Int)} {B B':Bk},uH seg B ps=some B'->B'.es.length<=B.es.length+ps.length
 | [],B,B',h=>by
  cases (Option.some.inj h:B=B')
  exact Nat.le_refl _
 | p::ps,B,B',h=>by
  unfold uH at h
  cases e:nT B p.1 p.2 seg with
  | none=>rw[e]at h; cases h
  | some B1=>
   rw[e]at h
   have h1:=vB seg h
   unfold nT at e
   split at e
   ·cases e
   ·cases (Option.some.inj e)
    have:=iY B.es p.1 (p.2,0,seg)
    rw[List.length_cons]
    have h1:B'.es.length<=(iZ B.es p.1 (p.2,0,seg)).length+ps.length:=h1
    omega
theorem tP {B B':Bk} {k:Str} {n seg:Int} {body:List Int} (h:dG B k n body seg=some B'):B'.es.length+B'.parts.length<=B.es.length+B.parts.length+1:=by
 unfold dG at h
 split at h
 ·cases (Option.some.inj h)
  show B.es.length+(B.parts++[(n,body)]).length<=_
  rw[List.length_append]
  exact Nat.le_refl _
 ·split at h
  ·unfold zY at h
   split at h
   ·have h1:=vB seg h
    have h2:=sD seg h
    rw[h2]
    have h1:B'.es.length<=B.es.length+B.parts.length:=h1
    show B'.es.length+0<=_
    omega
   ·cases h
  ·split at h
   ·cases h
   ·split at h
    ·unfold nT at h
     split at h
     ·cases h
     ·cases (Option.some.inj h)
      have:=iY B.es n (body,0,seg)
      show (iZ B.es n (body,0,seg)).length+B.parts.length<=_
      omega
    ·split at h
     ·cases (Option.some.inj h)
      exact Nat.le_succ _
     ·split at h
      ·cases (Option.some.inj h)
       have:=iY B.es n (body.drop 1,body.getD 0 0,seg)
       show (iZ B.es n (body.drop 1,body.getD 0 0,seg)).length+B.parts.length<=_
       omega
      ·split at h
       ·cases (Option.some.inj h)
        exact Nat.le_succ _
       ·rename_i e _
        split at h
        ·cases (Option.some.inj h)
         have:=iY B.es n (e.1,e.2.1+1,e.2.2)
         show (iZ B.es n (e.1,e.2.1+1,e.2.2)).length+B.parts.length<=_
         omega
        ·split at h
         ·cases (Option.some.inj h)
          have:=iY B.es n (e.1,0,e.2.2)
          show (iZ B.es n (e.1,0,e.2.2)).length+B.parts.length<=_
          omega
         ·cases (Option.some.inj h)
          have:(iB B.es n).length<=B.es.length:=List.length_filter_le _ _
          show (iB B.es n).length+B.parts.length<=_
          omega
theorem BR {ds:List PyData} (h:ds.all aZ=true):∃ rs:List Rw,ds=rs.map cS/\∀ r∈rs,aZ (cS r)=true:=by
 induction ds with
 | nil=>exact⟨[],rfl,fun r hr=>absurd hr (by simp)⟩
 | cons d ds ih=>
  rw[List.all_cons,Bool.and_eq_true]at h
  obtain⟨rs,e,hr⟩:=ih h.2
  have h1:=h.1
  have:∃ r:Rw,d=cS r:=by
   match d,h1 with
   | .tuple [.str k,.int n,.tuple bs],h1=>
    simp only[aZ,Bool.and_eq_true]at h1
    have hb:bs.all (bH 0 255)=true:=h1.2.2.1
    refine⟨(k,n,bD (.tuple bs)),?_⟩
    show PyData.tuple [.str k,.int n,.tuple bs] = .tuple [.str k,.int n,.tuple ((bD (.tuple bs)).map .int)]
    congr 4
    have:∀ l:List PyData,l.all (bH 0 255)=true->l=(bD (.tuple l)).map .int:=by
     intro l hl
     induction l with
     | nil=>rfl
     | cons x l ih=>
      rw[List.all_cons,Bool.and_eq_true]at hl
      have:=ih hl.2
      cases x with
      | int i=>
       show PyData.int i::l=PyData.int i::(bD (.tuple l)).map .int
       rw[<- this]
      | _=>exact absurd hl.1 (by simp [bH])
    exact congrArg PyData.tuple (this bs hb)
   | .tuple [.str k,.int n,.list _],h1=>simp [aZ,cI]at h1
   | .tuple [.str k,.int n,.int _],h1=>simp [aZ,cI]at h1
   | .tuple [.str k,.int n,.str _],h1=>simp [aZ,cI]at h1
   | .tuple [.str k,.int n,.bool _],h1=>simp [aZ,cI]at h1
   | .tuple [.str k,.int n,.none],h1=>simp [aZ,cI]at h1
   | .tuple [.str k,.int n,.dict _],h1=>simp [aZ,cI]at h1
   | .tuple [.str k,.str _,b],h1=>simp [aZ,bH]at h1
   | .tuple [.str k,.bool _,b],h1=>simp [aZ,bH]at h1
   | .tuple [.str k,.none,b],h1=>simp [aZ,bH]at h1
   | .tuple [.str k,.list _,b],h1=>simp [aZ,bH]at h1
   | .tuple [.str k,.tuple _,b],h1=>simp [aZ,bH]at h1
   | .tuple [.str k,.dict _,b],h1=>simp [aZ,bH]at h1
  obtain⟨r,e1⟩:=this
  refine⟨r::rs,by rw[List.map_cons,<- e1,<- e],fun x hx=>?_⟩
  rcases List.mem_cons.mp hx with rfl | hx
  ·rw[<- e1]
   exact h1
  ·exact hr x hx
section
variable {P:Program} {w:World} {K:PySem.W.Frag} {mg:Str->Option Value} {base:Heap} {a_KINDS C_BadRow C_Broken C_Book:Addr}
end
noncomputable def But (pl:Addr) (H H':Hp):Prop:=∀ b o,H b=some o->b≠pl->H' b=some o
theorem nQ {H:Hp} {r:Rw} {v:V} (h:Den H (cS r) v):∃ t b,v = .ref t/\H t=some (.tup [.str r.1,.int r.2.1,.ref b])/\H b=some (.tup (r.2.2.map V.int)):=by
 unfold cS gN at h
 simp only[Den,aU]at h
 obtain⟨t,_,rfl,gt,_,_,rfl,rfl,_,_,rfl,rfl,_,_,rfl,⟨b,ys,rfl,gb,hys⟩,rfl⟩:=h
 have:=bR.mp hys
 subst this
 exact⟨t,b,rfl,gt,gb⟩
end Qh
end
section
namespace Qh
open PySem L2
structure TxtN (K:PySem.W.Frag) (mg:Str->Option Value):Prop where
 n_len:mg "len" = none
 n_isinstance:mg "isinstance" = none
 n_all:mg "all" = none
 n_sum:mg "sum" = none
 n_tuple:mg "tuple" = none
 n_int:mg "int" = none
 n_bool:mg "bool" = none
 n_str:mg "str" = none
 n_range:mg "range" = none
 n_enumerate:mg "enumerate" = none
 n_list:mg "list" = none
 n_sorted:mg "sorted" = none
 c_HIGHEST_BYTE:∃ t,mg "HIGHEST_BYTE" = some (.int 255 t)
section
variable {P:Program} {w:World} {K:PySem.W.Frag} {mg:Str->Option Value} {base:Heap} 
end
noncomputable abbrev pE:Stmt:=top 5
noncomputable abbrev jQ:Stmt:=top 57
noncomputable abbrev iQ:Stmt:=top 58
noncomputable def bV:Str:="abcdefghijklmnopqrstuvwxyz0123456789"
noncomputable def inS (signs:Str) (c:Nat):Bool:=!(Builtin.Str.occurrences signs ⟨#[c]⟩ 0 signs.length 1).isEmpty
noncomputable def kF (x:Str):Bool:=x.cps.all fun c=>decide (c<128)
noncomputable def cN (signs:Str) (l:Int):PyData->Bool
 | .str x=>(decide (1<=(x.length:Int)) && decide ((x.length:Int)<=l)) && x.cps.toList.all (inS signs)
 | _=>false
noncomputable def jH:Sp:=fun vs H Q _=>∃ (v:V) (d:PyData) (signs:Str) (l:Int),vs=[v,.str signs,.int l]/\Den H d v/\(∀ x,d = .str x->x.length<=1000/\kF x=true)/\∀ H',aF H H'->Q (.bl (cN signs l d)) H'
structure TxtD (K:PySem.W.Frag) (mg:Str->Option Value) (C_BadName C_Missing C_There C_Stopped C_BadRow C_BadNumber C_Disk:Addr):Prop extends TxtN K mg where
 c_NAME_SIGNS:∃ t,mg "NAME_SIGNS" = some (.str bV t)
 c_LONGEST_NAME:∃ t,mg "LONGEST_NAME" = some (.int 8 t)
 c_MOST_STEPS:∃ t,mg "MOST_STEPS" = some (.int 100000 t)
 x_BadName:cW K C_BadName=true
 m_BadName:mg "BadName" = some (.ref C_BadName)
 x_Missing:cW K C_Missing=true
 m_Missing:mg "Missing" = some (.ref C_Missing)
 x_There:cW K C_There=true
 m_There:mg "There" = some (.ref C_There)
 x_Stopped:cW K C_Stopped=true
 m_Stopped:mg "Stopped" = some (.ref C_Stopped)
 x_BadRow:cW K C_BadRow=true
 m_BadRow:mg "BadRow" = some (.ref C_BadRow)
 x_BadNumber:cW K C_BadNumber=true
 m_BadNumber:mg "BadNumber" = some (.ref C_BadNumber)
 cl:Cls K C_Disk
 f_files:cK K C_Disk "files"
 f_steps_done:cK K C_Disk "steps_done"
 f_steps_ahead:cK K C_Disk "steps_ahead"
noncomputable def fO (C_BadName:Addr):Sp:=fun vs H Q E=>∃ (v:V) (d:PyData),vs=[v]/\Den H d v/\(∀ x,d = .str x->x.length<=1000/\kF x=true)/\(cN bV 8 d=true->∀ H',aF H H'->Q .non H')/\(cN bV 8 d=false->∀ H',aF H H'->E (.ref C_BadName) none H')
noncomputable def jD:PyData->Bool
 | .none=>true
 | d=>bH 0 100000 d
noncomputable def gZ (C_BadNumber:Addr):Sp:=fun vs H Q E=>∃ (v:V) (d:PyData),vs=[v]/\Den H d v/\(jD d=true->Q .non H)/\(jD d=false->E (.ref C_BadNumber) none H)
section
variable {P:Program} {w:World} {K:PySem.W.Frag} {mg:Str->Option Value} {base:Heap} {C_BadName C_Missing C_There C_Stopped C_BadRow C_BadNumber C_Disk:Addr}
theorem AO:FnScope ["thing","signs","longest"] ["thing","signs","longest"] (aH pE):=‹0›
set_option maxHeartbeats 1000000 in
theorem Ar {f:Addr} {fd:FuncData} (F:Fun K "is_word" "is_word" pE f fd) (T:TxtN K mg):‹7› 1 f fd ["thing","signs","longest"] jH:=by
 refine F.okX AO (fun vs H Q E h=>?_) (fun cdv A outer s H vs Q E hr h=>?_)
 ·obtain⟨v,d,signs,l,rfl,_⟩:=h
  rfl
 ·obtain⟨v,d,signs,l,rfl,hd,hz,q⟩:=h
  refine⟨_,@aA _ _ _ _ _ (@a9 _ _ _ _ _ _ _ _ (@PW.pt _ _ _ (@kC _ _ _ _ _ _ _ (@cF _ _ _ _ (@cY _ _ _ (@bC _ _ _ _ _ _ _ _ _ (gT K) (by rfl) T.n_isinstance dS (@aD _ _ _ _ _ _ ‹17› (@aD _ _ _ _ _ _ (@lR _ _ (.ty "str") _ _ (by rfl) T.n_str EW (by rfl) ⋯ ⋯) (@aB _))) ⋯ ⋯ ⋯ ⋯) ⋯)) (@hW _ _ _ _ (@cF _ _ _ _ (@yW _ _ _ _ _ _ _ _ _ _ _ _ i6 i6 ‹21› (@bC _ _ _ _ _ _ _ _ _ yE (by rfl) T.n_len iC ‹33› ⋯ ⋯ ⋯ ⋯) ‹22› ⋯))))) ‹24› (@aP _)) (@aC _ _ _ (@bA _ _ _ _ (@bC _ _ _ _ _ _ _ _ _ (vZ K) (by rfl) T.n_all EY (@f9 _ _ _ _ _ _ _ _ (@eP _ _ _ _ _ _ _ _ _ _ _ ["sign"] [("signs",1)] (by rfl) (@GH _ _ _ _ ‹17›) (fun C s2 H2 ex=>(@bW _ _ (0) _ (show List.Nodup (["sign","signs"]:List Str) by decide +kernel) (by rfl) (Or.inl (by rfl)) ⋯)) ‹26› (fun C s2 H2 ex=>(@jZ _ _ _ _ _ _ _ _ CC ‹17› ‹18› (by rfl))) ⋯ ⋯ ⋯ ⋯) (@aB _)) ⋯ ⋯ ⋯ ⋯))),?_⟩
  refine⟨_,rfl,_,_,_,_,rfl,hd.ty,BY d,_,rfl,?_⟩
  cases d with
  | none=>exact aT (aT (q H (aF.refl H)))
  | bool x=>exact aT (aT (q H (aF.refl H)))
  | int x=>exact aT (aT (q H (aF.refl H)))
  | tuple x=>exact aT (aT (q H (aF.refl H)))
  | list x=>exact aT (aT (q H (aF.refl H)))
  | dict x=>exact aT (aT (q H (aF.refl H)))
  | str x=>
  refine aV ?_
  obtain⟨z1,z2⟩:=hz x rfl
  have e:v = .str x:=by simpa only[Den] using hd
  subst e
  have zl:x.length<=sizeLine:=Nat.le_trans z1 (by decide)
  refine⟨_,rfl,x,rfl,zl,_,_,rfl,rfl,_,rfl,?_⟩
  simp only[cN]at q
  by_cases h1:1<=(x.length:Int)
  case neg=>
   rw[if_neg (by rw[decide_eq_true_eq]; exact h1)]
   rw[decide_eq_false h1,Bool.false_and,Bool.false_and]at q
   exact⟨_,rfl,aT (q H (aF.refl H))⟩
  rw[if_pos (decide_eq_true h1)]
  rw[decide_eq_true h1,Bool.true_and]at q
  refine⟨_,rfl,_,_,rfl,rfl,_,rfl,?_⟩
  show if (!decide ((x.length:Int)<=l))=true then _ else _
  by_cases h2:(x.length:Int)<=l
  case neg=>
   rw[decide_eq_false h2]at q ⊢
   exact aT (q H (aF.refl H))
  rw[decide_eq_true h2]at q ⊢
  rw[Bool.true_and]at q
  refine aV ?_
  refine bE rfl ?_
  refine⟨_,rfl,x,rfl,z2,?_⟩
  refine fE (Er (H:=H) x) zl (fun i y _=>∃ c,x.cps[i]? = some c/\y = .bl (inS signs c)) (fun _ _ _ _ _ h=>h) (fun σ=>∃ z,σ = [z,some (.str signs)]) ?z0 ?_ ?_
  case z0=>exact⟨none,rfl⟩
  ·intro i y σc H3 hi hσ s3 hx Q' hQ'
   obtain⟨z,rfl⟩:=hσ
   obtain⟨c,hc,rfl⟩:=hx
   refine⟨_,rfl,_,rfl,_,_,rfl,rfl,?_⟩
   exact hQ' _ _ _ ⟨_,rfl⟩ (aF.refl _) ⟨c,hc,rfl⟩
  intro D ys H' hD s' hD' hlen hR
  have ey:ys=(x.cps.toList.map (inS signs)).map V.bl:=by
   apply List.ext_getElem?
   intro i
   cases e:ys[i]? with
   | none=>
    have:ys.length<=i:=List.getElem?_eq_none_iff.mp e
    rw[List.getElem?_eq_none (by rw[List.length_map,List.length_map,Array.length_toList]; omega)]
   | some y=>
    obtain⟨c,h1,h2⟩:=hR i y e
    rw[List.getElem?_map,List.getElem?_map,Array.getElem?_toList,h1,h2]
    rfl
  refine⟨D,x.cps.toList.map (inS signs),rfl,SqL.of (by rw[hD',ey]),?_⟩
  rw[List.all_map]
  exact q H' s'
theorem uB:FnScope ["name"] ["name"] (aH jQ):=‹0›
theorem uL {f:Addr} {fd:FuncData} (F:Fun K "check_name" "check_name" jQ f fd) (T:‹1›) (c_is_word:‹8› "is_word" 1 ["thing","signs","longest"] jH):‹7› 2 f fd ["name"] (fO C_BadName):=by
 obtain⟨_,hc_NAME_SIGNS⟩:=T.c_NAME_SIGNS
 obtain⟨_,hc_LONGEST_NAME⟩:=T.c_LONGEST_NAME
 refine F.okX uB (fun vs H Q E h=>?_) (fun cdv A outer s H vs Q E hr h=>?_)
 ·obtain⟨v,d,rfl,_⟩:=h
  rfl
 ·obtain⟨v,d,rfl,hd,hz,q,qe⟩:=h
  refine⟨_,@aC _ _ _ (@a9 _ _ _ _ _ _ _ _ (@cF _ _ _ _ (@cY _ _ _ (@bB _ _ _ _ _ _ _ _ _ _ _ c_is_word ‹12› aW (@aD _ _ _ _ _ _ ‹17› (@aD _ _ _ _ _ _ (@bX _ _ (.str "abcdefghijklmnopqrstuvwxyz0123456789") _ _ (by rfl) hc_NAME_SIGNS ⟨_,rfl⟩ ⋯) (@aD _ _ _ _ _ _ (@bX _ _ (.int 8) _ _ (by rfl) hc_LONGEST_NAME ⟨_,rfl⟩ ⋯) (@aB _)))) ⋯ ⋯ ⋯ ⋯) ⋯)) (@aC _ _ _ (@dC _ _ _ _ _ _ _ _ _ _ eJ (by rfl) T.x_BadName (by rfl) T.m_BadName ‹20› ⋯ ⋯ ⋯)) (@aP _)),?_⟩
  refine⟨_,rfl,v,d,bV,8,rfl,hd,hz,fun H1 S1=>⟨_,rfl,?_⟩⟩
  cases hb:cN bV 8 d with
  | false=>exact aT ⟨(by show 1<=sizeLine; decide),qe hb H1 S1⟩
  | true=>exact aV (q hb H1 S1)
theorem rQ:FnScope ["steps"] ["steps"] (aH iQ):=‹0›
theorem sO {f:Addr} {fd:FuncData} (F:Fun K "check_steps" "check_steps" iQ f fd) (T:‹1›) (c_is_number:‹4›):‹7› 2 f fd ["steps"] (gZ C_BadNumber):=by
 obtain⟨_,hc_MOST_STEPS⟩:=T.c_MOST_STEPS
 refine F.okX rQ (fun vs H Q E h=>?_) (fun cdv A outer s H vs Q E hr h=>?_)
 ·obtain⟨v,d,rfl,_⟩:=h
  rfl
 ·obtain⟨v,d,rfl,hd,q,qe⟩:=h
  refine⟨_,@aC _ _ _ (@a9 _ _ _ _ _ _ _ _ (@PW.pt _ _ _ (@jV _ _ _ _ _ _ _ (@aS _ _ _ _ _ _ _ _ xE ‹17› (@mW _ _ _) (aX _)) (@gO _ _ _ _ (@cF _ _ _ _ (@cY _ _ _ (@bB _ _ _ _ _ _ _ _ _ _ _ c_is_number ‹12› aW (@aD _ _ _ _ _ _ ‹17› (@aO _ _ _ _ _ _ _ ‹21› (@aD _ _ _ _ _ _ (@bX _ _ (.int 100000) _ _ (by rfl) hc_MOST_STEPS ⟨_,rfl⟩ ⋯) (@aB _)))) ⋯ ⋯ ⋯ ⋯) ⋯))))) (@aC _ _ _ (@dC _ _ _ _ _ _ _ _ _ _ eJ (by rfl) T.x_BadNumber (by rfl) T.m_BadNumber ‹20› ⋯ ⋯ ⋯)) (@aP _)),?_⟩
  by_cases hv:v = .non
  ·subst hv
   have:jD d=true:=by
    cases d with
    | none=>rfl
    | bool b=>simp only[Den]at hd; cases hd
    | int b=>simp only[Den]at hd; cases hd
    | str b=>simp only[Den]at hd; cases hd
    | tuple b=>simp only[Den]at hd; obtain⟨_,_,e,_⟩:=hd; cases e
    | list b=>simp only[Den]at hd; obtain⟨_,_,e,_⟩:=hd; cases e
    | dict b=>simp only[Den]at hd
   exact⟨_,rfl,rfl,_,rfl,aV (aV (q this))⟩
  ·have e:jD d=bH 0 100000 d:=by
    cases d with
    | none=>simp only[Den]at hd; exact absurd hd hv
    | _=>rfl
   rw[e]at q qe
   refine⟨_,rfl,rfl,_,rfl,?_⟩
   rw[decide_eq_false hv]
   refine aT ⟨_,rfl,v,d,0,100000,rfl,hd,_,rfl,?_⟩
   cases hb:bH 0 100000 d with
   | false=>exact aT ⟨(by show 1<=sizeLine; decide),qe hb⟩
   | true=>exact aV (q hb)
end
structure Dk where
 fs:List (Str × List Int)
 done:Int
 left:Option Int
noncomputable def Fq:Option Int->V
 | none=>.non
 | some n=>.int n
noncomputable def aI (fs:List (Str × List Int)) (n:Str):Option (List Int):=(fs.find? fun p=>decide (p.1=n)).map (·.2)
noncomputable def fH (fs:List (Str × List Int)) (n:Str):List (Str × List Int):=fs.filter fun p=>decide (p.1≠n)
noncomputable def x5 (H:Hp) (v:V) (bs:List Int):Prop:=∃ l,v = .ref l/\H l=some (.lst (bs.map V.int))
noncomputable def FsR (H:Hp):List (Str × List Int)->List (Key × V)->Prop
 | [],[]=>True
 | p::fs,q::kvs=>q.1=Sum.inr p.1/\x5 H q.2 p.2/\FsR H fs kvs
 | _,_=>False
noncomputable def dkF (df:Addr) (done:Int) (left:Option Int):List (Str × V):=[("files",.ref df),("steps_done",.int done),("steps_ahead",Fq left)]
structure DiskAt (C:Addr) (H:Hp) (dk df:Addr) (kvs:List (Key × V)) (D:Dk):Prop where
 self:∃ dx,H dk=some (.ins C dx (dkF df D.done D.left))
 files:H df=some (.dK kvs)
 rel:FsR H D.fs kvs
 nd:(kvs.map (·.2)).Nodup
 kn:(D.fs.map (·.1)).Nodup
noncomputable def own (dk df:Addr) (kvs:List (Key × V)) (b:Addr):Prop:=b=dk\/b=df\/V.ref b∈kvs.map (·.2)
noncomputable def eV (dk df:Addr) (kvs:List (Key × V)) (H H':Hp):Prop:=∀ b o,H b=some o->¬ own dk df kvs b->H' b=some o
noncomputable def kA (dk df:Addr) (kvs kvs':List (Key × V)) (H:Hp):Prop:=∀ b,own dk df kvs' b->own dk df kvs b\/H b=none
theorem FsR.same {H H':Hp}:∀ {fs:List (Str × List Int)} {kvs:List (Key × V)},(∀ b o,H b=some o->V.ref b∈kvs.map (·.2)->H' b=some o)->FsR H fs kvs->FsR H' fs kvs
 | [],[],_,_=>trivial
 | p::fs,q::kvs,s,h=>by
  obtain⟨h1,⟨l,e,g⟩,h3⟩:=h
  exact⟨h1,⟨l,e,s l _ g (by rw[List.map_cons,e]; exact List.mem_cons_self)⟩,FsR.same (fun b o e m=>s b o e (List.mem_cons_of_mem _ m)) h3⟩
 | [],_::_,_,h=>h.elim
 | _::_,[],_,h=>h.elim
theorem FsR.len {H:Hp}:∀ {fs:List (Str × List Int)} {kvs:List (Key × V)},FsR H fs kvs->kvs.length=fs.length
 | [],[],_=>rfl
 | p::fs,q::kvs,h=>by rw[List.length_cons,List.length_cons,FsR.len h.2.2]
 | [],_::_,h=>h.elim
 | _::_,[],h=>h.elim
theorem FsR.keys {H:Hp}:∀ {fs:List (Str × List Int)} {kvs:List (Key × V)},FsR H fs kvs->kvs.map (·.1)=(fs.map (·.1)).map Sum.inr
 | [],[],_=>rfl
 | p::fs,q::kvs,h=>by rw[List.map_cons,List.map_cons,List.map_cons,h.1,FsR.keys h.2.2]
 | [],_::_,h=>h.elim
 | _::_,[],h=>h.elim
theorem xU {a b:Str}:((Sum.inr a:Key)=Sum.inr b) ↔ a=b:=⟨Sum.inr.inj,fun h=>by rw[h]⟩
theorem FsR.val {H:Hp} {n:Str}:∀ {fs:List (Str × List Int)} {kvs:List (Key × V)},FsR H fs kvs->(match aI fs n with | none=>eE kvs (Sum.inr n)=none | some e=>∃ v,eE kvs (Sum.inr n)=some v/\x5 H v e)
 | [],[],_=>rfl
 | p::fs,q::kvs,h=>by
  obtain⟨h1,h2,h3⟩:=h
  have ih:=FsR.val (n:=n) h3
  by_cases e:p.1=n
  ·have:aI (p::fs) n=some p.2:=by simp [aI,e]
   rw[this]
   exact⟨q.2,gU (by rw[h1,e]),h2⟩
  ·have e1:aI (p::fs) n=aI fs n:=by simp [aI,e]
   have e2:eE (q::kvs) (Sum.inr n)=eE kvs (Sum.inr n):=gW (by rw[h1,xU]; exact e)
   rw[e1,e2]
   exact ih
 | [],_::_,h=>h.elim
 | _::_,[],h=>h.elim
theorem kZ {C dk df:Addr} {H:Hp} {kvs:List (Key × V)} {D:Dk} (h:DiskAt C H dk df kvs D):dk≠df/\V.ref dk ∉ kvs.map (·.2)/\V.ref df ∉ kvs.map (·.2):=by
 have key:∀ {fs:List (Str × List Int)} {kvs:List (Key × V)},FsR H fs kvs->∀ b,V.ref b∈kvs.map (·.2)->∃ xs,H b=some (.lst xs):=by
  intro fs
  induction fs with
  | nil=>
   intro kvs hr b hb
   cases kvs with
   | nil=>simp at hb
   | cons _ _=>exact hr.elim
  | cons p fs ih=>
   intro kvs hr b hb
   cases kvs with
   | nil=>exact hr.elim
   | cons q kvs=>
    obtain⟨_,⟨l,e,g⟩,h3⟩:=hr
    rw[List.map_cons,List.mem_cons]at hb
    rcases hb with hb | hb
    ·rw[e]at hb
     cases hb
     exact⟨_,g⟩
    ·exact ih h3 b hb
 obtain⟨dx,h1⟩:=h.self
 refine⟨?_,fun hb=>?_,fun hb=>?_⟩
 ·rintro rfl
  rw[h.files]at h1
  cases h1
 ·obtain⟨xs,e⟩:=key h.rel _ hb
  rw[h1]at e
  cases e
 ·obtain⟨xs,e⟩:=key h.rel _ hb
  rw[h.files]at e
  cases e
theorem pT {C dk df dx:Addr} {H:Hp} {kvs:List (Key × V)} {D:Dk} (h:DiskAt C H dk df kvs D) (done:Int) (left:Option Int):DiskAt C (upd H dk (.ins C dx (dkF df done left))) dk df kvs ⟨D.fs,done,left⟩:=by
 obtain⟨n1,n2,n3⟩:=kZ h
 refine⟨⟨dx,aE⟩,by rw[aG (Ne.symm n1)]; exact h.files,h.rel.same fun b o e m=>?_,h.nd,h.kn⟩
 rw[aG (fun z=>by rw[z]at m; exact n2 m)]
 exact e
theorem DiskAt.same {C dk df:Addr} {H H':Hp} {kvs:List (Key × V)} {D:Dk} (h:DiskAt C H dk df kvs D) (s:aF H H'):DiskAt C H' dk df kvs D:=by
 obtain⟨dx,h1⟩:=h.self
 exact⟨⟨dx,s _ _ h1⟩,s _ _ h.files,h.rel.same fun b o e _=>s b o e,h.nd,h.kn⟩
noncomputable def fW (D:Dk):Option Dk:=match D.left with
 | none=>some ⟨D.fs,D.done+1,none⟩
 | some n=>if n=0 then none else some ⟨D.fs,D.done+1,some (n - 1)⟩
noncomputable abbrev jP:Stmt:=bI (top 59) 12
noncomputable def iK (C C_Stopped:Addr):Sp:=fun vs H Q E=>∃ (dk df:Addr) (kvs:List (Key × V)) (D:Dk),vs=[.ref dk]/\DiskAt C H dk df kvs D/\(∀ D',fW D=some D'->∀ H',(∀ b o,H b=some o->b≠dk->H' b=some o)->DiskAt C H' dk df kvs D'->Q .non H')/\(fW D=none->E (.ref C_Stopped) none H)
section
variable {P:Program} {w:World} {K:PySem.W.Frag} {mg:Str->Option Value} {base:Heap} {C_BadName C_Missing C_There C_Stopped C_BadRow C_BadNumber C_Disk:Addr}
theorem mO:FnScope ["self"] ["self"] (aH jP):=‹0›
theorem uK {f:Addr} {fd:FuncData} (F:Fun K "count_step" "Disk.count_step" jP f fd) (T:‹1›):‹7› 1 f fd ["self"] (iK C_Disk C_Stopped):=by
 refine F.okX mO (fun vs H Q E h=>?_) (fun cdv A outer s H vs Q E hr h=>?_)
 ·obtain⟨dk,df,kvs,D,rfl,_⟩:=h
  rfl
 ·obtain⟨dk,df,kvs,D,rfl,hD,q,qe⟩:=h
  refine⟨_,@aA _ _ _ _ _ (@a9 _ _ _ _ _ _ _ _ (@aS _ _ _ _ _ _ _ _ lA ‹27› ‹21› (aX _)) (@aC _ _ _ (@dC _ _ _ _ _ _ _ _ _ _ eJ (by rfl) T.x_Stopped (by rfl) T.m_Stopped ‹20› ⋯ ⋯ ⋯)) (@aP _)) (@aA _ _ _ _ _ (@a9 _ _ _ _ _ _ _ _ (@aS _ _ _ _ _ _ _ _ xE ‹27› (@mW _ _ _) (aX _)) (@aC _ _ _ (@lQ _ _ _ _ _ _ _ _ _ _ ‹17› ‹21› Ge)) (@aP _)) (@aC _ _ _ (@lQ _ _ _ _ _ _ _ _ _ _ ‹17› ‹21› A7))),?_⟩
  obtain⟨dx,h1⟩:=hD.self
  obtain⟨fs,done,left⟩:=D
  unfold fW at q qe
  cases left with
  | none=>
   refine⟨_,rfl,dk,_,dx,_,_,rfl,h1,T.cl,T.f_steps_ahead,rfl,rfl,_,rfl,aV ?_⟩
   refine bE rfl ?_
   refine⟨_,rfl,dk,_,dx,_,_,rfl,h1,T.cl,T.f_steps_ahead,rfl,rfl,_,rfl,aV ?_⟩
   refine bE rfl ?_
   refine⟨_,rfl,dk,_,dx,_,_,rfl,h1,T.cl,T.f_steps_done,rfl,_,_,rfl,rfl,dx,_,h1,(by show 3<1000; decide),?_⟩
   exact q _ rfl _ (fun b o e nb=>by rw[aG nb]; exact e) (pT hD (done+1) none)
  | some n=>
   refine⟨_,rfl,dk,_,dx,_,_,rfl,h1,T.cl,T.f_steps_ahead,rfl,rfl,_,rfl,?_⟩
   by_cases hn:n=0
   ·subst hn
    refine aT ?_
    exact⟨(by show 1<=sizeLine; decide),qe rfl⟩
   ·have e0:decide (V.int n=V.int 0)=false:=decide_eq_false (fun z=>hn (V.int.inj z))
    show if decide (V.int n=V.int 0)=true then _ else _
    rw[e0]
    refine aV ?_
    refine bE rfl ?_
    refine⟨_,rfl,dk,_,dx,_,_,rfl,h1,T.cl,T.f_steps_ahead,rfl,rfl,_,rfl,aT ?_⟩
    refine⟨_,rfl,dk,_,dx,_,_,rfl,h1,T.cl,T.f_steps_ahead,rfl,_,_,rfl,rfl,dx,_,h1,(by show 3<1000; decide),?_⟩
    have h2:=pT (dx:=dx) hD done (some (n - 1))
    have g2:upd H dk (.ins C_Disk dx (dkF df done (some (n - 1)))) dk=some (.ins C_Disk dx (dkF df done (some (n - 1)))):=aE
    refine⟨_,rfl,dk,_,dx,_,_,rfl,g2,T.cl,T.f_steps_done,rfl,_,_,rfl,rfl,dx,_,g2,(by show 3<1000; decide),?_⟩
    exact q _ (by dsimp only; rw[if_neg hn]) _ (fun b o e nb=>by rw[aG nb,aG nb]; exact e) (pT h2 (done+1) (some (n - 1)))
end
end Qh
end
section
namespace Qh
open PySem L2
noncomputable abbrev xA:Stmt:=bI (top 59) 0
noncomputable abbrev AU:Stmt:=bI (top 59) 2
noncomputable abbrev AW:Stmt:=bI (top 59) 5
noncomputable abbrev wY:Stmt:=bI (top 59) 6
noncomputable abbrev AS:Stmt:=bI (top 59) 7
noncomputable abbrev AQ:Stmt:=bI (top 59) 8
noncomputable abbrev jS:Stmt:=bI (top 59) 11
noncomputable def lB (d:PyData):Prop:=∀ x,d = .str x->x.length<=1000/\kF x=true
theorem yK {signs:Str} {l:Int} {d:PyData} (h:cN signs l d=true):∃ x,d = .str x:=by
 cases d with
 | str x=>exact⟨x,rfl⟩
 | _=>cases h
noncomputable def iM (C C_BadName C_Missing:Addr):Sp:=fun vs H Q E=>∃ (dk df:Addr) (kvs:List (Key × V)) (D:Dk) (v:V) (d:PyData),vs=[.ref dk,v]/\DiskAt C H dk df kvs D/\Den H d v/\lB d/\
 (cN bV 8 d=false->∀ H',aF H H'->E (.ref C_BadName) none H')/\(∀ n,d = .str n->cN bV 8 d=true->(aI D.fs n=none->∀ H',aF H H'->E (.ref C_Missing) none H')/\(∀ bs,aI D.fs n=some bs->∀ H',aF H H'->Q .non H'))
noncomputable def nF (C C_BadName C_Missing:Addr):Sp:=fun vs H Q E=>∃ (dk df:Addr) (kvs:List (Key × V)) (D:Dk) (v:V) (d:PyData),vs=[.ref dk,v]/\DiskAt C H dk df kvs D/\Den H d v/\lB d/\
 (cN bV 8 d=false->∀ H',aF H H'->E (.ref C_BadName) none H')/\(∀ n,d = .str n->cN bV 8 d=true->(aI D.fs n=none->∀ H',aF H H'->E (.ref C_Missing) none H')/\(∀ bs,aI D.fs n=some bs->∀ p H',aF H H'->H' p=some (.tup (bs.map V.int))->Q (.ref p) H'))
noncomputable def lN (C C_BadName C_Missing:Addr):Sp:=fun vs H Q E=>∃ (dk df:Addr) (kvs:List (Key × V)) (D:Dk) (v:V) (d:PyData),vs=[.ref dk,v]/\DiskAt C H dk df kvs D/\Den H d v/\lB d/\
 (cN bV 8 d=false->∀ H',aF H H'->E (.ref C_BadName) none H')/\(∀ n,d = .str n->cN bV 8 d=true->(aI D.fs n=none->∀ H',aF H H'->E (.ref C_Missing) none H')/\(∀ bs,aI D.fs n=some bs->∀ H',aF H H'->Q (.int (bs.length:Int)) H'))
noncomputable def rJ (C:Addr):Sp:=fun vs H Q _=>∃ (dk df:Addr) (kvs:List (Key × V)) (D:Dk),vs=[.ref dk]/\DiskAt C H dk df kvs D/\D.fs.length<500/\∀ p ms,List.Perm ms (D.fs.map (·.1))->PyProof.Rows.sortedS ms=true->∀ H',aF H H'->H' p=some (.lst (ms.map V.str))->H p=none->Q (.ref p) H'
noncomputable def Fr:PyData->Option Int
 | .int n=>some n
 | _=>none
noncomputable def rK (C C_BadNumber:Addr):Sp:=fun vs H Q E=>∃ (dk dx:Addr) (v:V) (d:PyData),vs=[.ref dk,v]/\H dk=some (.ins C dx [])/\Den H d v/\(jD d=false->E (.ref C_BadNumber) none H)/\
 (jD d=true->∀ df H',(∀ b o,H b=some o->b≠dk->H' b=some o)->H df=none->DiskAt C H' dk df [] ⟨[],0,Fr d⟩->Q .non H')
noncomputable def nG (C C_BadName C_There C_Stopped:Addr):Sp:=fun vs H Q E=>∃ (dk df:Addr) (kvs:List (Key × V)) (D:Dk) (v:V) (d:PyData),vs=[.ref dk,v]/\DiskAt C H dk df kvs D/\Den H d v/\lB d/\D.fs.length<1000/\
 (cN bV 8 d=false->∀ H',aF H H'->E (.ref C_BadName) none H')/\(∀ n,d = .str n->cN bV 8 d=true->(∀ bs,aI D.fs n=some bs->∀ H',aF H H'->E (.ref C_There) none H')/\
  (aI D.fs n=none->(fW D=none->∀ H',aF H H'->E (.ref C_Stopped) none H')/\(∀ D1,fW D=some D1->∀ kvs' H',eV dk df kvs H H'->kA dk df kvs kvs' H->DiskAt C H' dk df kvs' ⟨D1.fs++[(n,[])],D1.done,D1.left⟩->Q .non H')))
noncomputable def nJ (C C_BadName C_Missing C_Stopped:Addr):Sp:=fun vs H Q E=>∃ (dk df:Addr) (kvs:List (Key × V)) (D:Dk) (v:V) (d:PyData),vs=[.ref dk,v]/\DiskAt C H dk df kvs D/\Den H d v/\lB d/\
 (cN bV 8 d=false->∀ H',aF H H'->E (.ref C_BadName) none H')/\(∀ n,d = .str n->cN bV 8 d=true->(aI D.fs n=none->∀ H',aF H H'->E (.ref C_Missing) none H')/\
  (∀ bs,aI D.fs n=some bs->(fW D=none->∀ H',aF H H'->E (.ref C_Stopped) none H')/\(∀ D1,fW D=some D1->∀ kvs' H',eV dk df kvs H H'->kA dk df kvs kvs' H->DiskAt C H' dk df kvs' ⟨fH D1.fs n,D1.done,D1.left⟩->Q .non H')))
theorem nE {D D1:Dk} (h:fW D=some D1):D1.fs=D.fs:=by
 unfold fW at h
 split at h
 ·cases (Option.some.inj h)
  rfl
 ·split at h
  ·cases h
  ·cases (Option.some.inj h)
   rfl
theorem FsR.snoc {H:Hp} {n:Str} {e:List Int} {v:V} (hv:x5 H v e):∀ {fs:List (Str × List Int)} {kvs:List (Key × V)},FsR H fs kvs->FsR H (fs++[(n,e)]) (kvs++[(Sum.inr n,v)])
 | [],[],_=>⟨rfl,hv,trivial⟩
 | p::fs,q::kvs,h=>⟨h.1,h.2.1,FsR.snoc hv h.2.2⟩
 | [],_::_,h=>h.elim
 | _::_,[],h=>h.elim
theorem FsR.drop {H:Hp} {n:Str}:∀ {fs:List (Str × List Int)} {kvs:List (Key × V)},FsR H fs kvs->FsR H (fH fs n) (gB kvs (Sum.inr n))
 | [],[],_=>trivial
 | p::fs,q::kvs,h=>by
  obtain⟨h1,h2,h3⟩:=h
  have ih:=FsR.drop (n:=n) h3
  by_cases z:p.1=n
  ·have e1:fH (p::fs) n=fH fs n:=by simp [fH,z]
   rw[e1,vS (by rw[h1,z])]
   exact ih
  ·have e1:fH (p::fs) n=p::fH fs n:=by simp [fH,z]
   rw[e1,vT (by rw[h1,xU]; exact z)]
   exact⟨h1,h2,ih⟩
 | [],_::_,h=>h.elim
 | _::_,[],h=>h.elim
theorem CQ {fs:List (Str × List Int)} {n:Str} (h:aI fs n=none):n ∉ fs.map (·.1):=by
 intro hm
 rw[List.mem_map]at hm
 obtain⟨p,hp,rfl⟩:=hm
 unfold aI at h
 rw[Option.map_eq_none_iff,List.find?_eq_none]at h
 exact h p hp (decide_eq_true rfl)
section
variable {P:Program} {w:World} {K:PySem.W.Frag} {mg:Str->Option Value} {base:Heap} {C_BadName C_Missing C_There C_Stopped C_BadRow C_BadNumber C_Disk:Addr}
theorem mP:FnScope ["self","name"] ["self","name"] (aH jS):=‹0›
theorem uN {f:Addr} {fd:FuncData} (F:Fun K "check_file" "Disk.check_file" jS f fd) (T:‹1›) (c_check_name:‹8› "check_name" 2 ["name"] (fO C_BadName)):‹7› 3 f fd ["self","name"] (iM C_Disk C_BadName C_Missing):=by
 refine F.okX mP (fun vs H Q E h=>?_) (fun cdv A outer s H vs Q E hr h=>?_)
 ·obtain⟨dk,df,kvs,D,v,d,rfl,_⟩:=h
  rfl
 ·obtain⟨dk,df,kvs,D,v,d,rfl,hD,hd,hn,qb,q⟩:=h
  refine⟨_,@aA _ _ _ _ _ (aQ (bB c_check_name ‹12› bK (aD (pv 1) aB))) (@aC _ _ _ (@a9 _ _ _ _ _ _ _ _ (@sF _ _ _ _ _ _ (@pK _ _ _ _ _ (hu1 hr.units) ‹18› ‹27›) ⋯) (@aC _ _ _ (@dC _ _ _ _ _ _ _ _ _ _ eJ (by rfl) T.x_Missing (by rfl) T.m_Missing ‹20› ⋯ ⋯ ⋯)) (@aP _))),?_⟩
  refine⟨_,rfl,v,d,rfl,hd,hn,fun hw H1 S1=>?_,qb⟩
  obtain⟨n,rfl⟩:=yK hw
  obtain⟨qm,q⟩:=q n rfl hw
  have ev:v = .str n:=by simpa only[Den] using hd
  subst ev
  obtain⟨dx,h1⟩:=hD.self
  refine⟨_,rfl,_,rfl,dk,_,dx,_,_,rfl,S1 _ _ h1,T.cl,T.f_files,rfl,df,_,rfl,eO.k (k:=Sum.inr n) (S1 _ _ hD.files),_,rfl,?_⟩
  have hv:=hD.rel.val (n:=n)
  cases he:aI D.fs n with
  | none=>
   rw[he]at hv
   have hv:eE kvs (Sum.inr n)=none:=hv
   rw[hv]
   exact aT ⟨(by show 1<=sizeLine; decide),qm he H1 S1⟩
  | some bs=>
   rw[he]at hv
   obtain⟨v,hv1,_⟩:=hv
   rw[hv1]
   exact aV (q bs he H1 S1)
theorem wU:FnScope ["self","name"] ["self","name"] (aH AS):=‹0›
theorem FJ {f:Addr} {fd:FuncData} (F:Fun K "read" "Disk.read" AS f fd) (T:‹1›) (m_check_file:‹3›):‹7› 4 f fd ["self","name"] (nF C_Disk C_BadName C_Missing):=by
 refine F.okX wU (fun vs H Q E h=>?_) (fun cdv A outer s H vs Q E hr h=>?_)
 ·obtain⟨dk,df,kvs,D,v,d,rfl,_⟩:=h
  rfl
 ·obtain⟨dk,df,kvs,D,v,d,rfl,hD,hd,hn,qb,q⟩:=h
  refine⟨_,@aA _ _ _ _ _ (aQ (cB m_check_file T.cl ‹12› bK (pv 0) (aD (pv 1) aB))) (@aC _ _ _ (@bA _ _ _ _ (@pI _ _ _ _ _ _ _ _ _ (AD K) (by rfl) T.n_tuple tV (@aM _ _ _ _ _ _ _ ‹43› (@aB _)) ⋯ ⋯ ⋯ ⋯))),?_⟩
  obtain⟨dx,h1⟩:=hD.self
  refine⟨_,rfl,dk,dx,_,rfl,h1,rfl,_,rfl,dk,df,kvs,D,v,d,rfl,hD,hd,hn,qb,fun n en hw=>?_⟩
  obtain⟨qm,q2⟩:=q n en hw
  subst en
  have ev:v = .str n:=by simpa only[Den] using hd
  subst ev
  refine⟨qm,fun bs hbs H1 S1=>?_⟩
  have hv:=hD.rel.val (n:=n)
  rw[hbs]at hv
  obtain⟨v,hv1,l,rfl,gl⟩:=hv
  have dg:eO H1 df (.str n) (some (.ref l)):=by
   have:=eO.k (k:=Sum.inr n) (S1 _ _ hD.files)
   rw[hv1]at this
   exact this
  refine⟨_,rfl,dk,_,dx,_,_,rfl,S1 _ _ h1,T.cl,T.f_files,rfl,_,rfl,df,_,rfl,dg,l,_,rfl,.inl ⟨SqL.of (S1 _ _ gl),fun p hp=>?_⟩⟩
  exact q2 bs hbs p _ (S1.trans (aJ hp)) aE
theorem wT:FnScope ["self","name"] ["self","name"] (aH AQ):=‹0›
theorem FG {f:Addr} {fd:FuncData} (F:Fun K "size" "Disk.size" AQ f fd) (T:‹1›) (m_check_file:‹3›):‹7› 4 f fd ["self","name"] (lN C_Disk C_BadName C_Missing):=by
 refine F.okX wT (fun vs H Q E h=>?_) (fun cdv A outer s H vs Q E hr h=>?_)
 ·obtain⟨dk,df,kvs,D,v,d,rfl,_⟩:=h
  rfl
 ·obtain⟨dk,df,kvs,D,v,d,rfl,hD,hd,hn,qb,q⟩:=h
  refine⟨_,@aA _ _ _ _ _ (aQ (cB m_check_file T.cl ‹12› bK (pv 0) (aD (pv 1) aB))) (@aC _ _ _ (@bA _ _ _ _ (@bC _ _ _ _ _ _ _ _ _ (dR K) (by rfl) T.n_len iC (@aM _ _ _ _ _ _ _ ‹43› (@aB _)) ⋯ ⋯ ⋯ ⋯))),?_⟩
  obtain⟨dx,h1⟩:=hD.self
  refine⟨_,rfl,dk,dx,_,rfl,h1,rfl,_,rfl,dk,df,kvs,D,v,d,rfl,hD,hd,hn,qb,fun n en hw=>?_⟩
  obtain⟨qm,q2⟩:=q n en hw
  subst en
  have ev:v = .str n:=by simpa only[Den] using hd
  subst ev
  refine⟨qm,fun bs hbs H1 S1=>?_⟩
  have hv:=hD.rel.val (n:=n)
  rw[hbs]at hv
  obtain⟨v,hv1,l,rfl,gl⟩:=hv
  have dg:eO H1 df (.str n) (some (.ref l)):=by
   have:=eO.k (k:=Sum.inr n) (S1 _ _ hD.files)
   rw[hv1]at this
   exact this
  refine⟨_,rfl,dk,_,dx,_,_,rfl,S1 _ _ h1,T.cl,T.f_files,rfl,_,rfl,df,_,rfl,dg,l,_,rfl,.inl (SqL.of (S1 _ _ gl)),?_⟩
  rw[List.length_map]
  exact q2 bs hbs H1 S1
theorem uG:FnScope ["self"] ["self"] (aH wY):=‹0›
theorem Dg {f:Addr} {fd:FuncData} (F:Fun K "names" "Disk.names" wY f fd) (T:‹1›):‹7› 1 f fd ["self"] (rJ C_Disk):=by
 refine F.okX uG (fun vs H Q E h=>?_) (fun cdv A outer s H vs Q E hr h=>?_)
 ·obtain⟨dk,df,kvs,D,rfl,_⟩:=h
  rfl
 ·obtain⟨dk,df,kvs,D,rfl,hD,hl,q⟩:=h
  refine⟨_,@aC _ _ _ (@bA _ _ _ _ (@bC _ _ _ _ _ _ _ _ _ (@yA _ (by rfl)) (by rfl) T.n_sorted l0 ‹44› ⋯ ⋯ ⋯ ⋯)),?_⟩
  obtain⟨dx,h1⟩:=hD.self
  refine⟨_,rfl,dk,_,dx,_,_,rfl,h1,T.cl,T.f_files,rfl,df,kvs,_,rfl,hD.files,hD.rel.keys,by rw[List.length_map]; omega,fun p ms perm so hp=>?_⟩
  exact q p ms perm so _ (aJ hp) aE hp
theorem GU {H:Hp} {v:V} {d:PyData} (hd:Den H d v) (hs:jD d=true):v=Fq (Fr d):=by
 cases d with
 | none=>simp only[Den]at hd; exact hd
 | int n=>simp only[Den]at hd; exact hd
 | _=>cases hs
theorem oX:FnScope ["self","steps"] ["self","steps"] (aH xA):=‹0›
theorem Dj {f:Addr} {fd:FuncData} (F:Fun K "__init__" "Disk.__init__" xA f fd) (T:‹1›) (c_check_steps:‹8› "check_steps" 2 ["steps"] (gZ C_BadNumber)):‹7› 3 f fd ["self","steps"] (rK C_Disk C_BadNumber):=by
 refine F.okX oX (fun vs H Q E h=>?_) (fun cdv A outer s H vs Q E hr h=>?_)
 ·obtain⟨dk,dx,v,d,rfl,_⟩:=h
  rfl
 ·obtain⟨dk,dx,v,d,rfl,h1,hd,qb,q⟩:=h
  refine⟨_,@aA _ _ _ _ _ (aQ (bB c_check_steps ‹12› bK (aD (pv 1) aB))) (@aA _ _ _ _ _ (@cT _ _ _ _ _ _ _ _ ‹17› (@sJ _ _) (by rfl)) (@aA _ _ _ _ _ (@cT _ _ _ _ _ _ _ _ ‹17› ‹21› (by rfl)) (@aC _ _ _ (@cT _ _ _ _ _ _ _ _ ‹17› ‹18› (by rfl))))),?_⟩
  refine⟨_,rfl,v,d,rfl,hd,fun hs=>?_,qb⟩
  have ev:=GU hd hs
  subst ev
  refine fun df hdf=>?_
  have ndf:dk≠df:=fun z=>by rw[z,hdf]at h1; cases h1
  refine⟨_,rfl,dk,_,dx,_,rfl,by rw[aG ndf]; exact h1,T.cl,T.f_files,(by show 0<1000; decide),?_⟩
  refine⟨_,rfl,dk,_,dx,_,rfl,aE,T.cl,T.f_steps_done,(by show 1<1000; decide),?_⟩
  refine⟨_,rfl,_,rfl,dk,_,dx,_,rfl,aE,T.cl,T.f_steps_ahead,(by show 2<1000; decide),?_⟩
  refine q hs df _ (fun b o e nb=>?_) hdf ⟨⟨dx,?_⟩,?_,trivial,List.nodup_nil,List.nodup_nil⟩
  ·rw[aG nb,aG nb,aG nb,aG (fun z=>by rw[z,hdf]at e; cases e)]
   exact e
  ·rw[aE]
   rfl
  ·rw[aG (Ne.symm ndf),aG (Ne.symm ndf),aG (Ne.symm ndf)]
   exact aE
theorem wV:FnScope ["self","name"] ["self","name"] (aH AU):=‹0›
theorem FL {f:Addr} {fd:FuncData} (F:Fun K "make" "Disk.make" AU f fd) (T:‹1›) (c_check_name:‹8› "check_name" 2 ["name"] (fO C_BadName)) (m_count_step:‹6›):‹7› 3 f fd ["self","name"] (nG C_Disk C_BadName C_There C_Stopped):=by
 refine F.okX wV (fun vs H Q E h=>?_) (fun cdv A outer s H vs Q E hr h=>?_)
 ·obtain⟨dk,df,kvs,D,v,d,rfl,_⟩:=h
  rfl
 ·obtain⟨dk,df,kvs,D,v,d,rfl,hD,hd,hn,hl,qb,q⟩:=h
  refine⟨_,@aA _ _ _ _ _ (aQ (bB c_check_name ‹12› bK (aD (pv 1) aB))) (@aA _ _ _ _ _ (@a9 _ _ _ _ _ _ _ _ (@sF _ _ _ _ _ _ (@Dc _ _ _ _ _ (hu1 hr.units) ‹18› ‹27›) ⋯) (@aC _ _ _ (@dC _ _ _ _ _ _ _ _ _ _ eJ (by rfl) T.x_There (by rfl) T.m_There ‹20› ⋯ ⋯ ⋯)) (@aP _)) (@aA _ _ _ _ _ (aQ (cU m_count_step T.cl ‹12› bK (pv 0))) (@aC _ _ _ (@jX _ _ _ _ _ _ _ _ _ (hu1 hr.units) ‹27› ‹18› (@iS _ _ _ _ (@aB _)) (by rfl))))),?_⟩
  refine⟨_,rfl,v,d,rfl,hd,hn,fun hw H1 S1=>?_,qb⟩
  obtain⟨n,rfl⟩:=yK hw
  obtain⟨qt,q2⟩:=q n rfl hw
  have ev:v = .str n:=by simpa only[Den] using hd
  subst ev
  have hD1:=hD.same S1
  obtain⟨dx,h1⟩:=hD1.self
  refine⟨_,rfl,_,rfl,dk,_,dx,_,_,rfl,h1,T.cl,T.f_files,rfl,df,_,rfl,eO.k (k:=Sum.inr n) hD1.files,_,rfl,?_⟩
  have hv:=hD1.rel.val (n:=n)
  cases he:aI D.fs n with
  | some bs=>
   rw[he]at hv
   obtain⟨v,hv1,_⟩:=hv
   rw[hv1]
   exact aT ⟨(by show 1<=sizeLine; decide),qt bs he H1 S1⟩
  | none=>
   rw[he]at hv
   have hv:eE kvs (Sum.inr n)=none:=hv
   rw[hv]
   refine aV ?_
   refine bE rfl ?_
   obtain⟨qs,q3⟩:=q2 he
   refine⟨_,rfl,dk,dx,_,rfl,h1,rfl,dk,df,kvs,D,rfl,hD1,fun D1 hs H2 f2 hD2=>?_,fun hs=>qs hs H1 S1⟩
   refine⟨(by show 0<=sizeLine; decide),fun l hl3=>?_⟩
   have S3:=aJ (o:=.lst []) hl3
   generalize eH3:upd H2 l (.lst [])=H3 at S3 ⊢
   have g3:H3 l=some (.lst []):=by rw[<- eH3]; exact aE
   have hD3:=hD2.same S3
   obtain⟨dx3,h13⟩:=hD3.self
   have hkl:kvs.length<sizeLine:=by rw[hD.rel.len]; exact Nat.lt_trans hl (by decide)
   refine⟨_,rfl,dk,_,dx3,_,_,rfl,h13,T.cl,T.f_files,rfl,_,rfl,df,_,rfl,tZ.k (k:=Sum.inr n) hD3.files hkl,?_⟩
   have epk:gP kvs (Sum.inr n) (V.ref l)=kvs++[(Sum.inr n,V.ref l)]:=DT _ hv
   rw[epk]
   obtain⟨o1,o2,o3⟩:=kZ hD3
   have nlm:V.ref l ∉ kvs.map (·.2):=fun hm=>by
    have:∀ {fs:List (Str × List Int)} {kvs:List (Key × V)},FsR H2 fs kvs->V.ref l∈kvs.map (·.2)->H2 l≠none:=by
     intro fs
     induction fs with
     | nil=>
      intro kvs hr hb
      cases kvs with
      | nil=>simp at hb
      | cons _ _=>exact hr.elim
     | cons p fs ih=>
      intro kvs hr hb
      cases kvs with
      | nil=>exact hr.elim
      | cons q kvs=>
       obtain⟨_,⟨l',e,g⟩,h3⟩:=hr
       rw[List.map_cons,List.mem_cons]at hb
       rcases hb with hb | hb
       ·rw[e]at hb
        cases hb
        rw[g]
        exact fun z=>by cases z
       ·exact ih h3 hb
    exact this hD2.rel hm hl3
   have ldf:l≠df:=fun z=>by rw[z,hD2.files]at hl3; cases hl3
   have hl0:H l=none:=by
    cases e:H l with
    | none=>rfl
    | some o=>
     have ldk:l≠dk:=fun z=>by
      obtain⟨dx2,h12⟩:=hD2.self
      rw[z,h12]at hl3
      cases hl3
     rw[f2 l o (S1 _ _ e) ldk]at hl3
     cases hl3
   refine q3 D1 hs (kvs++[(Sum.inr n,V.ref l)]) _ (fun b o e nb=>?_) (fun b hb=>?_) ⟨⟨dx3,by rw[aG o1]; exact h13⟩,aE,?_,?_,?_⟩
   ·have nb1:b≠dk:=fun z=>nb (.inl z)
    have nb2:b≠df:=fun z=>nb (.inr (.inl z))
    rw[aG nb2]
    exact S3 _ _ (f2 b o (S1 _ _ e) nb1)
   ·rcases hb with hb | hb | hb
    ·exact .inl (.inl hb)
    ·exact .inl (.inr (.inl hb))
    ·rw[List.map_append,List.mem_append]at hb
     rcases hb with hb | hb
     ·exact .inl (.inr (.inr hb))
     ·have:b=l:=by simpa using hb
      subst this
      exact .inr hl0
   ·refine(hD3.rel.same fun b o e m=>?_).snoc ⟨l,rfl,by rw[aG ldf]; exact g3⟩
    rw[aG (fun z=>by rw[z]at m; exact o3 m)]
    exact e
   ·rw[List.map_append,List.nodup_append]
    refine⟨hD.nd,by simp,?_⟩
    intro a ha b hb
    have:b=V.ref l:=by simpa using hb
    subst this
    rintro rfl
    exact nlm ha
   ·show ((D1.fs++[(n,([]:List Int))]).map (·.1)).Nodup
    rw[List.map_append,List.nodup_append,nE hs]
    refine⟨hD.kn,by simp,?_⟩
    intro a ha b hb
    have:b=n:=by simpa using hb
    subst this
    rintro rfl
    exact CQ he ha
end
end Qh
end
section
namespace Qh
open PySem L2
noncomputable abbrev DC:Stmt:=bI (top 59) 3
noncomputable abbrev DB:Stmt:=bI (top 59) 4
noncomputable def cX (fs:List (Str × List Int)) (n:Str) (e:List Int):List (Str × List Int):=fs.map fun p=>if p.1=n then (p.1,e) else p
theorem iX (fs:List (Str × List Int)) (n:Str) (e:List Int):(cX fs n e).map (·.1)=fs.map (·.1):=by
 unfold cX
 rw[List.map_map]
 apply List.map_congr_left
 intro p _
 show (if p.1=n then (p.1,e) else p).1=p.1
 split <;> rfl
theorem BO {fs:List (Str × List Int)} {n:Str} {e:List Int} (h:n ∉ fs.map (·.1)):cX fs n e=fs:=by
 unfold cX
 have:fs.map (fun p=>if p.1=n then (p.1,e) else p)=fs.map id:=by
  apply List.map_congr_left
  intro p hp
  rw[if_neg (fun z=>h (by rw[<- z]; exact List.mem_map_of_mem hp))]
  rfl
 rw[this,List.map_id]
theorem oU {fs:List (Str × List Int)} {n:Str} {e bs:List Int} (h:aI fs n=some bs):aI (cX fs n e) n=some e:=by
 induction fs with
 | nil=>cases h
 | cons p fs ih=>
  unfold cX
  rw[List.map_cons]
  by_cases z:p.1=n
  ·rw[if_pos z]
   simp [aI,z]
  ·rw[if_neg z]
   have h':aI fs n=some bs:=by simpa [aI,z] using h
   have:=ih h'
   unfold cX at this
   simpa [aI,z] using this
theorem wB {kvs:List (Key × V)} {k:Key} {v:V} (h:eE kvs k=some v):v∈kvs.map (·.2):=by
 unfold eE at h
 rw[Option.map_eq_some_iff]at h
 obtain⟨p,hp,rfl⟩:=h
 exact List.mem_map_of_mem (List.mem_of_find?_eq_some hp)
theorem FsR.wr {H:Hp} {n:Str} {l:Addr} {e:List Int}:∀ {fs:List (Str × List Int)} {kvs:List (Key × V)},FsR H fs kvs->(kvs.map (·.2)).Nodup->(fs.map (·.1)).Nodup->eE kvs (Sum.inr n)=some (.ref l)->FsR (upd H l (.lst (e.map V.int))) (cX fs n e) kvs
 | [],[],_,_,_,h=>by cases h
 | p::fs,q::kvs,h,nd,kn,hv=>by
  obtain⟨h1,⟨l',e',g⟩,h3⟩:=h
  rw[List.map_cons,List.nodup_cons]at nd kn
  by_cases z:p.1=n
  ·have e1:eE (q::kvs) (Sum.inr n)=some q.2:=gU (by rw[h1,z])
   rw[e1]at hv
   have hq:q.2=V.ref l:=Option.some.inj hv
   have es:cX (p::fs) n e=(p.1,e)::fs:=by
    show (if p.1=n then (p.1,e) else p)::cX fs n e=_
    rw[if_pos z,BO (by rw[<- z]; exact kn.1)]
   rw[es]
   refine⟨h1,⟨l,hq,aE⟩,h3.same fun b o eb m=>?_⟩
   rw[aG (fun y=>by rw[y,<- hq]at m; exact nd.1 m)]
   exact eb
  ·have e1:eE (q::kvs) (Sum.inr n)=eE kvs (Sum.inr n):=gW (by rw[h1,xU]; exact z)
   rw[e1]at hv
   have es:cX (p::fs) n e=p::cX fs n e:=by
    show (if p.1=n then (p.1,e) else p)::cX fs n e=_
    rw[if_neg z]
   rw[es]
   have nl:l'≠l:=fun y=>by
    subst y
    exact nd.1 (by rw[e']; exact wB hv)
   exact⟨h1,⟨l',e',by rw[aG nl]; exact g⟩,FsR.wr h3 nd.2 kn.2 hv⟩
 | [],_::_,h,_,_,_=>h.elim
 | _::_,[],h,_,_,_=>h.elim
theorem Cs {H:Hp} {d:PyData} {v:V} (hd:Den H d v) (hb:cI d=true):∃ a bs,d = .tuple bs/\v = .ref a/\H a=some (.tup ((bD d).map V.int))/\(bD d).length=bs.length:=by
 cases d with
 | tuple bs=>
  simp only[Den]at hd
  obtain⟨a,ys,rfl,ha,hbs⟩:=hd
  have ei:=lG hbs hb
  subst ei
  exact⟨a,bs,rfl,rfl,ha,List.length_map _⟩
 | _=>exact absurd hb (by simp [cI])
noncomputable def qL (n:Str):Dk->List Int->Dk × Bool
 | D,[]=>(D,true)
 | D,b::bs=>match fW D with
  | none=>(D,false)
  | some D1=>qL n ⟨cX D1.fs n ((aI D1.fs n).getD []++[b]),D1.done,D1.left⟩ bs
noncomputable def oR (C C_BadName C_Missing C_BadRow C_Stopped:Addr):Sp:=fun vs H Q E=>∃ (dk df:Addr) (kvs:List (Key × V)) (D:Dk) (v v2:V) (d d2:PyData),vs=[.ref dk,v,v2]/\DiskAt C H dk df kvs D/\Den H d v/\lB d/\Den H d2 v2/\(∀ bs,d2 = .tuple bs->bs.length<=100000)/\(∀ n bs,aI D.fs n=some bs->bs.length<=100000)/\
 (cN bV 8 d=false->∀ H',aF H H'->E (.ref C_BadName) none H')/\(∀ n,d = .str n->cN bV 8 d=true->(aI D.fs n=none->∀ H',aF H H'->E (.ref C_Missing) none H')/\
  (∀ bs,aI D.fs n=some bs->(cI d2=false->∀ H',aF H H'->E (.ref C_BadRow) none H')/\(cI d2=true->∀ H',eV dk df kvs H H'->DiskAt C H' dk df kvs (qL n D (bD d2)).1->((qL n D (bD d2)).2=true->Q .non H')/\((qL n D (bD d2)).2=false->E (.ref C_Stopped) none H'))))
section
variable {P:Program} {w:World} {K:PySem.W.Frag} {mg:Str->Option Value} {base:Heap} {C_BadName C_Missing C_There C_Stopped C_BadRow C_BadNumber C_Disk:Addr}
theorem wW:FnScope ["self","name"] ["self","name"] (aH AW):=‹0›
theorem FN {f:Addr} {fd:FuncData} (F:Fun K "drop" "Disk.drop" AW f fd) (T:‹1›) (m_check_file:‹3›) (m_count_step:‹6›):‹7› 4 f fd ["self","name"] (nJ C_Disk C_BadName C_Missing C_Stopped):=by
 refine F.okX wW (fun vs H Q E h=>?_) (fun cdv A outer s H vs Q E hr h=>?_)
 ·obtain⟨dk,df,kvs,D,v,d,rfl,_⟩:=h
  rfl
 ·obtain⟨dk,df,kvs,D,v,d,rfl,hD,hd,hn,qb,q⟩:=h
  refine⟨_,@aA _ _ _ _ _ (aQ (cB m_check_file T.cl ‹12› bK (pv 0) (aD (pv 1) aB))) (@aA _ _ _ _ _ (aQ (cU m_count_step T.cl ‹12› bK (pv 0))) (@aC _ _ _ (aQ (pJ K PySem.F.plainAttrs_dict PySem.F.slot_dict_pop PySem.F.type_dict_pop xR (dD (pv 0) (by rfl)) (aD (pv 1) aB))))),?_⟩
  obtain⟨dx,h1⟩:=hD.self
  refine⟨_,rfl,dk,dx,_,rfl,h1,rfl,_,rfl,dk,df,kvs,D,v,d,rfl,hD,hd,hn,qb,fun n en hw=>?_⟩
  obtain⟨qm,q2⟩:=q n en hw
  subst en
  have ev:v = .str n:=by simpa only[Den] using hd
  subst ev
  refine⟨qm,fun bs hbs H1 S1=>?_⟩
  obtain⟨qs,q3⟩:=q2 bs hbs
  have hD1:=hD.same S1
  refine⟨_,rfl,dk,dx,_,rfl,S1 _ _ h1,rfl,dk,df,kvs,D,rfl,hD1,fun D1 hs H2 f2 hD2=>?_,fun hs=>qs hs H1 S1⟩
  obtain⟨dx2,h12⟩:=hD2.self
  have hv:=hD2.rel.val (n:=n)
  rw[nE hs,hbs]at hv
  obtain⟨v,hv1,_⟩:=hv
  refine⟨_,rfl,dk,_,dx2,_,_,rfl,h12,T.cl,T.f_files,rfl,.inr (.inr (.inl ⟨rfl,.inl ⟨kvs,hD2.files⟩⟩)),_,rfl,df,kvs,Sum.inr n,_,rfl,rfl,hD2.files,hv1,?_⟩
  obtain⟨o1,o2,o3⟩:=kZ hD2
  have sub:(gB kvs (Sum.inr n)).Sublist kvs:=List.filter_sublist
  have subf:(fH D1.fs n).Sublist D1.fs:=List.filter_sublist
  refine q3 D1 hs (gB kvs (Sum.inr n)) _ (fun b o e nb=>?_) (fun b hb=>?_) ⟨⟨dx2,by rw[aG o1]; exact h12⟩,aE,?_,?_,?_⟩
  ·rw[aG (fun z=>nb (.inr (.inl z)))]
   exact f2 b o (S1 _ _ e) (fun z=>nb (.inl z))
  ·rcases hb with hb | hb | hb
   ·exact .inl (.inl hb)
   ·exact .inl (.inr (.inl hb))
   ·exact .inl (.inr (.inr ((sub.map _).subset hb)))
  ·refine(hD2.rel.drop (n:=n)).same fun b o e m=>?_
   rw[aG (fun z=>by rw[z]at m; exact o3 ((sub.map _).subset m))]
   exact e
  ·exact hD2.nd.sublist (sub.map _)
  ·exact hD2.kn.sublist (subf.map _)
theorem pW:FnScope ["self","name","some","one"] ["self","name","some"] (aH DC):=‹0›
set_option maxHeartbeats 1000000 in
theorem GS {f:Addr} {fd:FuncData} (F:Fun K "add" "Disk.add" DC f fd) (T:‹1›) (c_is_bytes:‹8› "is_bytes" 2 ["thing"] fX) (m_check_file:‹3›) (m_count_step:‹6›):‹7› 4 f fd ["self","name","some"] (oR C_Disk C_BadName C_Missing C_BadRow C_Stopped):=by
 refine F.okX pW (fun vs H Q E h=>?_) (fun cdv A outer s H vs Q E hr h=>?_)
 ·obtain⟨dk,df,kvs,D,v,v2,d,d2,rfl,_⟩:=h
  rfl
 ·obtain⟨dk,df,kvs,D,v,v2,d,d2,rfl,hD,hd,hn,hd2,hz2,hzf,qb,q⟩:=h
  refine⟨_,@aA _ _ _ _ _ (aQ (cB m_check_file T.cl ‹12› bK (pv 0) (aD (pv 1) aB))) (@aA _ _ _ _ _ (@a9 _ _ _ _ _ _ _ _ (@cF _ _ _ _ (@cY _ _ _ (@bB _ _ _ _ _ _ _ _ _ _ _ c_is_bytes ‹12› aW ‹41› ⋯ ⋯ ⋯ ⋯) ⋯)) ‹36› (@aP _)) (@aC _ _ _ (@jW _ _ _ _ _ _ _ _ (qH fM) (by rfl) (@BT _ K _ _ _ ‹22› ⋯) (@bW _ _ (3) _ pW.nd (by rfl) (by first | exact Or.inl (by rfl) | exact Or.inr (by rfl)) ⋯) (@aA _ _ _ _ _ (aQ (cU m_count_step T.cl ‹12› bK (pv 0))) (@aC _ _ _ (aQ (pJ K PySem.F.plainAttrs_list PySem.F.slot_list_append PySem.F.type_list_append lT (nU (hu1 hr.units) (dD (pv 0) (by rfl)) (pv 1) (fun _ _=>rfl)) (aD (pv 3) aB))))) ⋯))),?_⟩
  obtain⟨dx,h1⟩:=hD.self
  refine⟨_,rfl,dk,dx,_,rfl,h1,rfl,_,rfl,dk,df,kvs,D,v,d,rfl,hD,hd,hn,qb,fun n en hw=>?_⟩
  obtain⟨qm,q2⟩:=q n en hw
  subst en
  have ev:v = .str n:=by simpa only[Den] using hd
  subst ev
  refine⟨qm,fun bs hbs H1 S1=>?_⟩
  obtain⟨qr,q3⟩:=q2 bs hbs
  refine⟨_,rfl,v2,d2,rfl,hd2.same S1,fun ds e=>Nat.le_trans (hz2 ds e) (by decide),fun H2 S2=>⟨_,rfl,?_⟩⟩
  have S02:aF H H2:=S1.trans S2
  cases hb:cI d2 with
  | false=>exact aT ⟨(by show 1<=sizeLine; decide),qr hb H2 S02⟩
  | true=>
  refine aV ?_
  refine bE rfl ?_
  have q4:=q3 hb
  have hD2:=hD.same S02
  obtain⟨a2,bs2,rfl,rfl,ga2,l2⟩:=Cs hd2 hb
  have z2:=hz2 bs2 rfl
  have zf:=hzf n bs hbs
  generalize bD (.tuple bs2)=ns at ga2 l2 q4
  have ga:H2 a2=some (.tup (ns.map V.int)):=S02 _ _ ga2
  refine⟨_,rfl,a2,rfl,⟨_,SqT.of ga⟩,?_⟩
  have sq0:SqT K (fun a=>if a=a2 then some (.tup (ns.map V.int)) else none) a2 (ns.map V.int):=SqT.of (if_pos rfl)
  have lm:(ns.map V.int).length=ns.length:=List.length_map _
  have na:¬ own dk df kvs a2:=by
   rintro (z | z | z)
   ·obtain⟨dx2,h12⟩:=hD2.self
    rw[z,h12]at ga
    cases ga
   ·rw[z,hD2.files]at ga
    cases ga
   ·have key:∀ {fs:List (Str × List Int)} {kvs:List (Key × V)},FsR H2 fs kvs->V.ref a2∈kvs.map (·.2)->∃ xs,H2 a2=some (.lst xs):=by
     intro fs
     induction fs with
     | nil=>
      intro kvs hr hb
      cases kvs with
      | nil=>simp at hb
      | cons _ _=>exact hr.elim
     | cons p fs ih=>
      intro kvs hr hb
      cases kvs with
      | nil=>exact hr.elim
      | cons q kvs=>
       obtain⟨_,⟨l',e,g⟩,h3⟩:=hr
       rw[List.map_cons,List.mem_cons]at hb
       rcases hb with hb | hb
       ·rw[e]at hb
        cases hb
        exact⟨_,g⟩
       ·exact ih h3 hb
    obtain⟨xs,e⟩:=key hD2.rel z
    rw[ga]at e
    cases e
  refine fB (H0:=fun a=>if a=a2 then some (.tup (ns.map V.int)) else none) (BM (K:=K) sq0) (fun i σ H'=>H' a2=some (.tup (ns.map V.int))/\eV dk df kvs H H'/\∃ Di bsi z3,DiskAt C_Disk H' dk df kvs Di/\aI Di.fs n=some bsi/\bsi.length<=bs.length+i/\qL n D ns=qL n Di (ns.drop i)/\σ = [some (.ref dk),some (.str n),some (.ref a2),z3]) ?i0 ?kp ?_ ?_
  case i0=>exact⟨ga,fun b o e _=>S02 b o e,D,bs,none,hD2,hbs,Nat.le_refl _,rfl,rfl⟩
  case kp=>
   intro i σ H' h b o e
   by_cases z:b=a2
   ·subst z
    have e:some (HO.tup (ns.map V.int))=some o:=by simpa using e
    rw[<- e]
    exact h.1
   ·have e:none=some o:=by simpa [z] using e
    cases e
  ·rintro i x σ H5 H6 hi ⟨g5,f5,Di,bsi,z3,hDi,hlk,hlen,hadd,rfl⟩ s6 hx
   rw[lm]at hi
   rw[List.getElem?_map,List.getElem?_eq_getElem hi]at hx
   cases hx
   rw[List.drop_eq_getElem_cons hi]at hadd
   have hD6:=hDi.same s6
   obtain⟨dx6,h16⟩:=hD6.self
   have f6:eV dk df kvs H H6:=fun b o e nb=>s6 _ _ (f5 b o e nb)
   refine⟨_,rfl,dk,dx6,_,rfl,h16,rfl,dk,df,kvs,Di,rfl,hD6,fun D1 hs H7 f7 hD7=>?_,fun hs=>?_⟩
   ·obtain⟨dx7,h17⟩:=hD7.self
    have hv:=hD7.rel.val (n:=n)
    rw[nE hs,hlk]at hv
    obtain⟨v7,hv1,l,rfl,gl⟩:=hv
    have dg:eO H7 df (.str n) (some (.ref l)):=by
     have:=eO.k (k:=Sum.inr n) hD7.files
     rw[hv1]at this
     exact this
    refine⟨_,rfl,dk,_,dx7,_,_,rfl,h17,T.cl,T.f_files,rfl,_,rfl,df,_,rfl,dg,.inl ⟨rfl,_,SqL.of gl⟩,_,rfl,l,_,_,rfl,rfl,gl,?_,?_⟩
    ·rw[List.length_map]
     exact Nat.lt_of_le_of_lt (show _<=200000 by omega) (by decide)
    have hlm:=wB hv1
    have em:bsi.map V.int++[V.int ns[i]]=(bsi++[ns[i]]).map V.int:=by rw[List.map_append]; rfl
    rw[em]
    obtain⟨o1,o2,o3⟩:=kZ hD7
    have nl:a2≠l:=fun z=>na (.inr (.inr (by rw[z]; exact hlm)))
    have nk:a2≠dk:=fun z=>na (.inl z)
    refine⟨?_,fun b o e nb=>?_,⟨cX D1.fs n (bsi++[ns[i]]),D1.done,D1.left⟩,bsi++[ns[i]],_,⟨⟨dx7,?_⟩,?_,hD7.rel.wr hD7.nd hD7.kn hv1,hD7.nd,?_⟩,?_,?_,?_,rfl⟩
    ·rw[aG nl]
     exact f7 _ _ (s6 _ _ g5) nk
    ·rw[aG (fun z=>nb (.inr (.inr (by rw[z]; exact hlm))))]
     exact f7 _ _ (f6 b o e nb) (fun z=>nb (.inl z))
    ·rw[aG (fun z=>by rw[<- z]at hlm; exact o2 hlm)]
     exact h17
    ·rw[aG (fun z=>by rw[<- z]at hlm; exact o3 hlm)]
     exact hD7.files
    ·show ((cX D1.fs n (bsi++[ns[i]])).map (·.1)).Nodup
     rw[iX]
     exact hD7.kn
    ·show aI (cX D1.fs n (bsi++[ns[i]])) n=_
     rw[nE hs]
     exact oU hlk
    ·rw[List.length_append]
     show bsi.length+1<=_
     omega
    ·rw[hadd]
     show (match fW Di with | none=>(Di,false) | some D1=>qL n ⟨cX D1.fs n ((aI D1.fs n).getD []++[ns[i]]),D1.done,D1.left⟩ (ns.drop (i+1)))=_
     rw[hs]
     dsimp only
     rw[nE hs,hlk]
     rfl
   ·have e1:qL n D ns=(Di,false):=by
     rw[hadd]
     show (match fW Di with | none=>(Di,false) | some D1=>qL n ⟨cX D1.fs n ((aI D1.fs n).getD []++[ns[i]]),D1.done,D1.left⟩ (ns.drop (i+1)))=_
     rw[hs]
    rw[e1]at q4
    exact(q4 H6 f6 hD6).2 rfl
  ·rintro σ H5 ⟨g5,f5,Di,bsi,z3,hDi,hlk,hlen,hadd,rfl⟩
   rw[lm,List.drop_of_length_le (Nat.le_refl _)]at hadd
   have e1:qL n D ns=(Di,true):=hadd
   rw[e1]at q4
   exact(q4 H5 f5 hDi).1 rfl
end
noncomputable def Eu:PyData->Nat
 | .int n=>n.toNat
 | _=>0
noncomputable def wK (C C_BadName C_Missing C_BadNumber C_Stopped:Addr):Sp:=fun vs H Q E=>∃ (dk df:Addr) (kvs:List (Key × V)) (D:Dk) (v v2:V) (d d2:PyData),vs=[.ref dk,v,v2]/\DiskAt C H dk df kvs D/\Den H d v/\lB d/\Den H d2 v2/\D.fs.length<1000/\
 (cN bV 8 d=false->∀ H',aF H H'->E (.ref C_BadName) none H')/\(∀ n,d = .str n->cN bV 8 d=true->(aI D.fs n=none->∀ H',aF H H'->E (.ref C_Missing) none H')/\
  (∀ bs,aI D.fs n=some bs->(bH 0 bs.length d2=false->∀ H',aF H H'->E (.ref C_BadNumber) none H')/\(bH 0 bs.length d2=true->(fW D=none->∀ H',aF H H'->E (.ref C_Stopped) none H')/\
   (∀ D1,fW D=some D1->∀ kvs' H',eV dk df kvs H H'->kA dk df kvs kvs' H->DiskAt C H' dk df kvs' ⟨cX D1.fs n (bs.take (Eu d2)),D1.done,D1.left⟩->Q .non H'))))
theorem FsR.mapP {H:Hp} {n:Str} {e:List Int} {v:V} (hv:x5 H v e):∀ {fs:List (Str × List Int)} {kvs:List (Key × V)},FsR H fs kvs->FsR H (cX fs n e) (kvs.map fun kv=>if kv.1=Sum.inr n then (kv.1,v) else kv)
 | [],[],_=>trivial
 | p::fs,q::kvs,h=>by
  obtain⟨h1,h2,h3⟩:=h
  show FsR H ((if p.1=n then (p.1,e) else p)::cX fs n e) _
  rw[List.map_cons]
  by_cases z:p.1=n
  ·rw[if_pos z,if_pos (show q.1=Sum.inr n by rw[h1,z])]
   exact⟨h1,hv,FsR.mapP hv h3⟩
  ·rw[if_neg z,if_neg (show ¬ q.1=Sum.inr n by rw[h1,xU]; exact z)]
   exact⟨h1,h2,FsR.mapP hv h3⟩
 | [],_::_,h=>h.elim
 | _::_,[],h=>h.elim
theorem DQ {n:Str} {v:V}:∀ {kvs:List (Key × V)},(kvs.map (·.2)).Nodup->(kvs.map (·.1)).Nodup->v ∉ kvs.map (·.2)->((kvs.map fun kv=>if kv.1=Sum.inr n then (kv.1,v) else kv).map (·.2)).Nodup
 | [],_,_,_=>List.nodup_nil
 | q::kvs,h1,h2,h3=>by
  rw[List.map_cons,List.nodup_cons]at h1 h2
  have h3':v ∉ kvs.map (·.2):=fun m=>h3 (by rw[List.map_cons]; exact List.mem_cons_of_mem _ m)
  have ih:=DQ (n:=n) h1.2 h2.2 h3'
  rw[List.map_cons,List.map_cons,List.nodup_cons]
  by_cases z:q.1=Sum.inr n
  ·have e:(kvs.map fun kv=>if kv.1=Sum.inr n then (kv.1,v) else kv)=kvs.map id:=by
    apply List.map_congr_left
    intro p hp
    rw[if_neg (fun y=>h2.1 (by rw[z,<- y]; exact List.mem_map_of_mem hp))]
    rfl
   rw[if_pos z,e,List.map_id]
   exact⟨h3',h1.2⟩
  ·rw[if_neg z]
   refine⟨fun m=>?_,ih⟩
   rw[List.mem_map]at m
   obtain⟨p,hp,e⟩:=m
   rw[List.mem_map]at hp
   obtain⟨r,hr,rfl⟩:=hp
   by_cases y:r.1=Sum.inr n
   ·rw[if_pos y]at e
    exact h3 (by rw[List.map_cons,<- e]; exact List.mem_cons_self)
   ·rw[if_neg y]at e
    exact h1.1 (by rw[<- e]; exact List.mem_map_of_mem hr)
theorem n6 {H:Hp}:∀ {fs:List (Str × List Int)} {kvs:List (Key × V)},FsR H fs kvs->∀ {b:Addr},V.ref b∈kvs.map (·.2)->∃ xs,H b=some (.lst xs)
 | [],[],_,b,h=>by simp at h
 | p::fs,q::kvs,hr,b,hb=>by
  obtain⟨_,⟨l',e,g⟩,h3⟩:=hr
  rw[List.map_cons,List.mem_cons]at hb
  rcases hb with hb | hb
  ·rw[e]at hb
   cases hb
   exact⟨_,g⟩
  ·exact n6 h3 hb
 | [],_::_,h,_,_=>h.elim
 | _::_,[],h,_,_=>h.elim
section
variable {P:Program} {w:World} {K:PySem.W.Frag} {mg:Str->Option Value} {base:Heap} {C_BadName C_Missing C_There C_Stopped C_BadRow C_BadNumber C_Disk:Addr}
theorem yT:FnScope ["self","name","size"] ["self","name","size"] (aH DB):=‹0›
set_option maxHeartbeats 1000000 in
theorem GR {f:Addr} {fd:FuncData} (F:Fun K "cut" "Disk.cut" DB f fd) (T:‹1›) (c_is_number:‹4›) (m_check_file:‹3›) (m_count_step:‹6›):‹7› 4 f fd ["self","name","size"] (wK C_Disk C_BadName C_Missing C_BadNumber C_Stopped):=by
 refine F.okX yT (fun vs H Q E h=>?_) (fun cdv A outer s H vs Q E hr h=>?_)
 ·obtain⟨dk,df,kvs,D,v,v2,d,d2,rfl,_⟩:=h
  rfl
 ·obtain⟨dk,df,kvs,D,v,v2,d,d2,rfl,hD,hd,hn,hd2,hfl,qb,q⟩:=h
  refine⟨_,@aA _ _ _ _ _ (aQ (cB m_check_file T.cl ‹12› bK (pv 0) (aD (pv 1) aB))) (@aA _ _ _ _ _ (@a9 _ _ _ _ _ _ _ _ (@cF _ _ _ _ (@cY _ _ _ (@bB _ _ _ _ _ _ _ _ _ _ _ c_is_number ‹12› aW (@aD _ _ _ _ _ _ ‹22› (@aO _ _ _ _ _ _ _ ‹21› (@cJ _ _ _ _ _ _ _ _ (@bC _ _ _ _ _ _ _ _ _ (dR K) (by rfl) T.n_len iC (@aM _ _ _ _ _ _ _ ‹43› (@aB _)) ⋯ ⋯ ⋯ ⋯) (@aB _)))) ⋯ ⋯ ⋯ ⋯) ⋯)) (@aC _ _ _ (@dC _ _ _ _ _ _ _ _ _ _ eJ (by rfl) T.x_BadNumber (by rfl) T.m_BadNumber ‹20› ⋯ ⋯ ⋯)) (@aP _)) (@aA _ _ _ _ _ (aQ (cU m_count_step T.cl ‹12› bK (pv 0))) (@aC _ _ _ (@jX _ _ _ _ _ _ _ _ _ (hu1 hr.units) ‹27› ‹18› (@e9 _ _ _ _ _ _ _ _ _ _ (rM K) ‹43› (@iG _) (@fR _ _ _ ‹22›)) (by rfl))))),?_⟩
  obtain⟨dx,h1⟩:=hD.self
  refine⟨_,rfl,dk,dx,_,rfl,h1,rfl,_,rfl,dk,df,kvs,D,v,d,rfl,hD,hd,hn,qb,fun n en hw=>?_⟩
  obtain⟨qm,q2⟩:=q n en hw
  subst en
  have ev:v = .str n:=by simpa only[Den] using hd
  subst ev
  refine⟨qm,fun bs hbs H1 S1=>?_⟩
  obtain⟨qr,q3⟩:=q2 bs hbs
  have hD1:=hD.same S1
  have hv:=hD1.rel.val (n:=n)
  rw[hbs]at hv
  obtain⟨v1,hv1,l,rfl,gl⟩:=hv
  have dg:eO H1 df (.str n) (some (.ref l)):=by
   have:=eO.k (k:=Sum.inr n) hD1.files
   rw[hv1]at this
   exact this
  refine⟨_,rfl,_,rfl,dk,_,dx,_,_,rfl,S1 _ _ h1,T.cl,T.f_files,rfl,_,rfl,df,_,rfl,dg,l,_,rfl,.inl (SqL.of gl),v2,d2,0,_,rfl,hd2.same S1,_,rfl,?_⟩
  rw[List.length_map]
  cases hb:bH 0 bs.length d2 with
  | false=>exact aT ⟨(by show 1<=sizeLine; decide),qr hb H1 S1⟩
  | true=>
  refine aV ?_
  refine bE rfl ?_
  obtain⟨qs,q4⟩:=q3 hb
  obtain⟨k,ek,rfl,kb⟩:∃ k:Nat,d2 = .int (k:Int)/\v2 = .int (k:Int)/\k<=bs.length:=by
   cases d2 with
   | int i=>
    simp only[bH,Bool.and_eq_true,decide_eq_true_eq]at hb
    obtain⟨k,rfl⟩:=Int.eq_ofNat_of_zero_le hb.1
    exact⟨k,rfl,by simpa only[Den] using hd2,by omega⟩
   | _=>exact absurd hb (by simp [bH])
  subst ek
  refine⟨_,rfl,dk,dx,_,rfl,S1 _ _ h1,rfl,dk,df,kvs,D,rfl,hD1,fun D1 hs H2 f2 hD2=>?_,fun hs=>qs hs H1 S1⟩
  obtain⟨dx2,h12⟩:=hD2.self
  obtain⟨o1,o2,o3⟩:=kZ hD2
  have hlm:=wB hv1
  have gl2:H2 l=some (.lst (bs.map V.int)):=f2 _ _ gl (fun z=>by rw[z]at hlm; exact o2 hlm)
  have dg2:eO H2 df (.str n) (some (.ref l)):=by
   have:=eO.k (k:=Sum.inr n) hD2.files
   rw[hv1]at this
   exact this
  refine⟨_,rfl,dk,_,dx2,_,_,rfl,h12,T.cl,T.f_files,rfl,_,rfl,df,_,rfl,dg2,_,rfl,_,rfl,l,_,rfl,SqL.of gl2,fun l3 hl3=>?_⟩
  rw[BC (by rw[List.length_map]; exact kb),<- List.map_take]
  have S3:=aJ (o:=.lst ((bs.take k).map V.int)) hl3
  generalize eH3:upd H2 l3 (.lst ((bs.take k).map V.int))=H3 at S3 ⊢
  have g3:H3 l3=some (.lst ((bs.take k).map V.int)):=by rw[<- eH3]; exact aE
  have hD3:=hD2.same S3
  obtain⟨dx3,h13⟩:=hD3.self
  have hkl:kvs.length<sizeLine:=by rw[hD.rel.len]; exact Nat.lt_trans hfl (by decide)
  refine⟨_,rfl,dk,_,dx3,_,_,rfl,h13,T.cl,T.f_files,rfl,_,rfl,df,_,rfl,tZ.k (k:=Sum.inr n) hD3.files hkl,?_⟩
  have epk:gP kvs (Sum.inr n) (V.ref l3)=kvs.map fun kv=>if kv.1=Sum.inr n then (kv.1,V.ref l3) else kv:=by
   unfold gP
   rw[if_pos (by rw[kI,hv1]; rfl)]
  rw[epk]
  have nlm:V.ref l3 ∉ kvs.map (·.2):=fun hm=>by
   obtain⟨xs,e⟩:=n6 hD2.rel hm
   rw[hl3]at e
   cases e
  have ldf:l3≠df:=fun z=>by rw[z,hD2.files]at hl3; cases hl3
  have ldk:l3≠dk:=fun z=>by rw[z,h12]at hl3; cases hl3
  have hl0:H l3=none:=by
   cases e:H l3 with
   | none=>rfl
   | some o=>
    rw[f2 l3 o (S1 _ _ e) ldk]at hl3
    cases hl3
  refine q4 D1 hs _ _ (fun b o e nb=>?_) (fun b hb'=>?_) ⟨⟨dx3,by rw[aG o1]; exact h13⟩,aE,?_,?_,?_⟩
  ·rw[aG (fun z=>nb (.inr (.inl z)))]
   exact S3 _ _ (f2 b o (S1 _ _ e) (fun z=>nb (.inl z)))
  ·rcases hb' with hb' | hb' | hb'
   ·exact .inl (.inl hb')
   ·exact .inl (.inr (.inl hb'))
   ·rw[List.mem_map]at hb'
    obtain⟨p,hp,e⟩:=hb'
    rw[List.mem_map]at hp
    obtain⟨r,hr',rfl⟩:=hp
    by_cases y:r.1=Sum.inr n
    ·rw[if_pos y]at e
     have:l3=b:=V.ref.inj e
     rw[<- this]
     exact .inr hl0
    ·rw[if_neg y]at e
     exact .inl (.inr (.inr (by rw[<- e]; exact List.mem_map_of_mem hr')))
  ·have base3:FsR (upd H3 df (.dK (kvs.map fun kv=>if kv.1=Sum.inr n then (kv.1,V.ref l3) else kv))) D1.fs kvs:=hD3.rel.same fun b o e m=>by
    rw[aG (fun z=>by rw[z]at m; exact o3 m)]
    exact e
   exact base3.mapP ⟨l3,rfl,by rw[aG ldf]; exact g3⟩
  ·refine DQ hD.nd ?_ nlm
   rw[hD.rel.keys]
   exact List.Pairwise.map Sum.inr (fun a b h e=>h (Sum.inr.inj e)) hD.kn
  ·show ((cX D1.fs n (bs.take k)).map (·.1)).Nodup
   rw[iX]
   exact hD2.kn
end
end Qh
end
section
namespace Qh
open PySem L2
structure Ad where
 cD:Addr
 badRow:Addr
 broken:Addr
 book:Addr
 badName:Addr
 missing:Addr
 there:Addr
 stopped:Addr
 badNumber:Addr
 disk:Addr
 queue:Addr
 badSettings:Addr
 badBody:Addr
 badHand:Addr
 notHeld:Addr
structure TxtQ (K:PySem.W.Frag) (mg:Str->Option Value) (A:Ad):Prop where
 n_len:mg "len" = none
 n_int:mg "int" = none
 n_sorted:mg "sorted" = none
 n_sum:mg "sum" = none
 x_Broken:cW K A.broken=true
 m_Broken:mg "Broken" = some (.ref A.broken)
 cl_Book:Cls K A.book
 cl_Disk:Cls K A.disk
 cl_Queue:Cls K A.queue
 n_min:mg "min" = none
 c_LARGEST_MOST:∃ t,mg "LARGEST_MOST" = some (.int 2000 t)
 c_LONGEST_HOLD:∃ t,mg "LONGEST_HOLD" = some (.int 99 t)
 c_HIGHEST_TRIES:∃ t,mg "HIGHEST_TRIES" = some (.int 9 t)
 c_HAND_SIGNS:∃ t,mg "HAND_SIGNS" = some (.str "abcdefghijklmnopqrstuvwxyz" t)
 c_LONGEST_HAND:∃ t,mg "LONGEST_HAND" = some (.int 6 t)
 c_HIGHEST_NUMBER:∃ t,mg "HIGHEST_NUMBER" = some (.int 999999 t)
 c_HIGHEST_TIMES:∃ t,mg "HIGHEST_TIMES" = some (.int 9 t)
 x_BadSettings:cW K A.badSettings=true
 m_BadSettings:mg "BadSettings" = some (.ref A.badSettings)
 x_BadBody:cW K A.badBody=true
 m_BadBody:mg "BadBody" = some (.ref A.badBody)
 x_BadHand:cW K A.badHand=true
 m_BadHand:mg "BadHand" = some (.ref A.badHand)
 x_NotHeld:cW K A.notHeld=true
 m_NotHeld:mg "NotHeld" = some (.ref A.notHeld)
 f_upcoming:cK K A.book "upcoming"
 f_disk:cK K A.queue "disk"
 f_most:cK K A.queue "most"
 f_hold:cK K A.queue "hold"
 f_tries:cK K A.queue "tries"
 f_book:cK K A.queue "book"
 f_first:cK K A.queue "first"
 f_last:cK K A.queue "last"
 f_writing:cK K A.queue "writing"
 f_holders:cK K A.queue "holders"
 f_now:cK K A.queue "now"
 n_isinstance:mg "isinstance" = none
 n_tuple:mg "tuple" = none
 n_enumerate:mg "enumerate" = none
 n_range:mg "range" = none
 n_list:mg "list" = none
 c_LARGEST_DEAL:∃ t,mg "LARGEST_DEAL" = some (.int 9 t)
 x_BadNumber:cW K A.badNumber=true
 m_BadNumber:mg "BadNumber" = some (.ref A.badNumber)
noncomputable def aN (n:Int):Str:=("s" : Str)++Str.ofString (toString n)
noncomputable abbrev hV:Stmt:=top 45
noncomputable abbrev jN:Stmt:=top 46
noncomputable def cR (n:Int):Prop:=0<=n/\n<10000000
theorem qS {n:Int} (h:cR n):1<=(Str.ofString (toString n)).length/\(Str.ofString (toString n)).length<=7:=⟨PySem.W.KLn.one_le h.1,PyProof.Rows.toString_length_le h.1 (by decide) h.2⟩
theorem Dy (m:Nat):Builtin.Str.strSliceIndices (some 1) none 1 (m+1)=(List.range m).map (· + 1):=by
 have e1:Builtin.Str.strSliceIndices (some 1) none 1 (m+1)=sliceRange (max 0 (min 1 ((m+1:Nat):Int))) ((m+1:Nat):Int) 1:=rfl
 have e2:(max 0 (min 1 ((m+1:Nat):Int)):Int)=1:=by omega
 rw[e1,e2]
 unfold sliceRange
 simp only[show (1:Int) > 0 by decide,if_true]
 have e3:(if (1:Int)<((m+1:Nat):Int) then (((m+1:Nat):Int) - 1+1 - 1) / 1 else 0)=(m:Int):=by
  split <;> omega
 rw[e3,Int.toNat_natCast]
 apply List.map_congr_left
 intro k _
 omega
theorem AM (c:Nat):∀ cs:List Nat,((List.range cs.length).map (· + 1)).filterMap (fun i=>(c::cs)[i]?)=cs
 | cs=>by
  rw[List.filterMap_map]
  have:((fun i=>(c::cs)[i]?) ∘ fun x=>x+1)=fun i=>cs[i]?:=by
   funext i
   rfl
  rw[this]
  apply List.ext_getElem?
  intro i
  have key:∀ (l:List Nat) (k:Nat),k<=l.length->(List.range k).filterMap (fun i=>l[i]?)=l.take k:=by
   intro l k
   induction k with
   | zero=>intro _; rfl
   | succ k ih=>
    intro hk
    rw[List.range_succ,List.filterMap_append,ih (by omega),List.take_succ,List.getElem?_eq_getElem (by omega)]
    simp [List.getElem?_eq_getElem (show k<l.length by omega)]
  rw[key cs cs.length (Nat.le_refl _),List.take_length]
theorem AN {x:Str} {c:Nat} {cs:List Nat} (h:x.cps.toList=c::cs):Txt.slice x (some 1) none=⟨cs.toArray⟩:=by
 have hl:x.length=cs.length+1:=by
  show x.cps.size=_
  rw[<- Array.length_toList,h]
  rfl
 unfold Txt.slice
 rw[hl,Dy,if_neg (by simp)]
 have e:(fun i:Nat=>x.cps[i]?)=fun i=>(c::cs)[i]?:=by
  funext i
  rw[<- Array.getElem?_toList,h]
 rw[e,AM]
theorem sQ {n:Int} (h:0<=n):∀ c∈(Str.ofString (toString n)).cps.toList,48<=c/\c<=57:=by
 obtain⟨m,rfl⟩:=Int.eq_ofNat_of_zero_le h
 intro c hc
 rw[PySem.W.KIN.signs_num]at hc
 obtain⟨ch,hch,e⟩:=List.mem_map.mp hc
 have r:=PyProof.Rows.digit_range (Nat.isDigit_of_mem_toDigits (by decide) (by decide) hch)
 rw[<- e]
 exact r
theorem BP (n:Int):(aN n).cps.toList=115::(Str.ofString (toString n)).cps.toList:=by
 show ((("s" : Str)).cps++(Str.ofString (toString n)).cps).toList=_
 rw[Array.toList_append]
 rfl
theorem oV (n:Int):Txt.slice (aN n) (some 1) none=Str.ofString (toString n):=by
 rw[AN (BP n),Array.toArray_toList]
theorem B5 {n:Int} (h:cR n):Txt.isdigit (Str.ofString (toString n))=true:=by
 have hd:∀ c:Nat,c<58->48<=c->Unicode.isDigit c=true:=by decide +kernel
 unfold Txt.isdigit
 rw[decide_eq_true (show (Str.ofString (toString n)).length > 0 from (qS h).1),Bool.true_and,<- Array.all_toList,List.all_eq_true]
 intro c hc
 obtain⟨h1,h2⟩:=sQ h.1 c hc
 exact hd c (by omega) h1
theorem wN {n:Int} (h:cR n):(aN n).length<=8:=by
 have:=(qS h).2
 unfold aN
 rw[strLen_append]
 show 1+_<=8
 omega
noncomputable def gE:Sp:=fun vs H Q _=>∃ n:Int,vs=[.int n]/\cR n/\Q (.str (aN n)) H
noncomputable def iI:Sp:=fun vs H Q _=>∃ n:Int,vs=[.str (aN n)]/\cR n/\Q (.int n) H
section
variable {P:Program} {w:World} {K:PySem.W.Frag} {mg:Str->Option Value} {base:Heap} {A:Ad}
theorem qE:FnScope ["segment"] ["segment"] (aH hV):=‹0›
theorem qI {f:Addr} {fd:FuncData} (F:Fun K "segment_name" "segment_name" hV f fd):‹7› 1 f fd ["segment"] gE:=by
 refine F.okX qE (fun vs H Q E h=>?_) (fun cdv A outer s H vs Q E hr h=>?_)
 ·obtain⟨n,rfl,_⟩:=h
  rfl
 ·obtain⟨n,rfl,⟨h0,h1⟩,q⟩:=h
  refine⟨_,@aC _ _ _ (@bA _ _ _ _ (@pe_fw _ _ _ _ _ _ _ _ ‹17› ⋯)),?_⟩
  exact⟨_,rfl,n,rfl,h0,Int.lt_of_lt_of_le h1 (by decide),q⟩
theorem mB:FnScope ["name","figures"] ["name"] (aH jN):=‹0›
theorem uI {f:Addr} {fd:FuncData} (F:Fun K "segment_of" "segment_of" jN f fd) (T:TxtQ K mg A) (c_segment_name:‹2›):‹7› 2 f fd ["name"] iI:=by
 refine F.okX mB (fun vs H Q E h=>?_) (fun cdv A outer s H vs Q E hr h=>?_)
 ·obtain⟨n,rfl,_⟩:=h
  rfl
 ·obtain⟨n,rfl,hn,q⟩:=h
  refine⟨_,@aA _ _ _ _ _ (@a8 _ _ (1) _ _ _ _ mB.nd (by rfl) (by first | exact Or.inl (by rfl) | exact Or.inr (by rfl)) (@e9 _ _ _ _ _ _ _ _ _ _ F8 ‹17› (@fR _ _ _ ‹21›) (@iG _)) ⋯ ⋯) (@aA _ _ _ _ _ (@a9 _ _ _ _ _ _ _ _ (@PW.pt _ _ _ (@kC _ _ _ _ _ _ _ (@cF _ _ _ _ (@cY _ _ _ (@FD _ K _ _ _ _ _ _ _ _ PySem.F.plainAttrs_str PySem.F.slot_str_isdigit PySem.F.type_str_isdigit At ‹18› ⋯ ⋯ ⋯) ⋯)) (@hW _ _ _ _ (@aS _ _ _ _ _ _ _ _ kD ‹17› (@bB _ _ _ _ _ _ _ _ _ _ _ c_segment_name ‹12› aW (@cJ _ _ _ _ _ _ _ _ (@pI _ _ _ _ _ _ _ _ _ vY (by rfl) T.n_int BE (@aD _ _ _ _ _ _ ‹18› (@aB _)) ⋯ ⋯ ⋯ ⋯) (@aB _)) ⋯ ⋯ ⋯ ⋯) (aX _))))) ‹19› (@aP _)) (@aC _ _ _ (@bA _ _ _ _ (@pI _ _ _ _ _ _ _ _ _ vY (by rfl) T.n_int BE (@aD _ _ _ _ _ _ ‹18› (@aB _)) ⋯ ⋯ ⋯ ⋯)))),?_⟩
  have hl:=qS hn
  have hr1:=PySem.W.KIN.num_reads hn.1 (Int.lt_of_lt_of_le hn.2 (by decide))
  refine⟨_,rfl,_,rfl,_,rfl,Nat.le_trans (wN hn) (by decide),?_⟩
  rw[oV]
  refine⟨_,rfl,rfl,_,rfl,rfl,_,rfl,?_⟩
  rw[B5 hn]
  refine aV ?_
  refine⟨_,rfl,_,rfl,_,n,rfl,hr1,Nat.le_trans hl.2 (by decide),n,rfl,hn,rfl,_,rfl,?_⟩
  rw[j7 rfl]
  exact aV (bE rfl ⟨_,rfl,_,n,rfl,hr1,Nat.le_trans hl.2 (by decide),q⟩)
end
noncomputable abbrev iP:Stmt:=top 47
noncomputable def iH (ms:List Int):Prop:=ms=[]\/ms.getLastD 0 - ms.headD 0+1=(ms.length:Int)
noncomputable def dY (A:Ad):Sp:=fun vs H Q E=>∃ (dk df:Addr) (kvs:List (Key × V)) (D:Dk) (ns:List Int),vs=[.ref dk]/\DiskAt A.disk H dk df kvs D/\D.fs.map (·.1)=ns.map aN/\(∀ n∈ns,cR n)/\ns.length<500/\
 (∀ ms,List.Perm ms ns->ms.Pairwise (· <= ·)->iH ms->∀ p H',aF H H'->H p=none->H' p=some (.lst (ms.map V.int))->Q (.ref p) H')/\(∀ ms,List.Perm ms ns->ms.Pairwise (· <= ·)->¬ iH ms->∀ H',aF H H'->E (.ref A.broken) none H')
theorem DX {α β : Type} (f:α->β):∀ {ns:List α} {ts:List β},List.Perm ts (ns.map f)->∃ ms,List.Perm ms ns/\ts=ms.map f:=by
 intro ns
 induction ns with
 | nil=>
  intro ts h
  exact⟨[],List.Perm.refl _,List.Perm.eq_nil h⟩
 | cons n ns ih=>
  intro ts h
  have hm:f n∈ts:=h.mem_iff.mpr List.mem_cons_self
  obtain⟨a,b,rfl⟩:=List.append_of_mem hm
  have h1:List.Perm (f n::(a++b)) (f n::ns.map f):=List.perm_middle.symm.trans h
  obtain⟨ms,p,e⟩:=ih (List.perm_cons (f n) |>.mp h1)
  have el:ms=ms.take a.length++ms.drop a.length:=(List.take_append_drop _ _).symm
  have ea:a=(ms.take a.length).map f/\b=(ms.drop a.length).map f:=by
   have e2:=e
   rw[el,List.map_append]at e2
   refine List.append_inj e2 ?_
   rw[List.length_map,List.length_take]
   have:=congrArg List.length e
   rw[List.length_append,List.length_map]at this
   omega
  refine⟨ms.take a.length++n::ms.drop a.length,?_,?_⟩
  ·refine List.perm_middle.trans ?_
   rw[List.take_append_drop]
   exact p.cons n
  ·rw[List.map_append,List.map_cons,<- ea.1,<- ea.2]
theorem qU {ms:List Int} (h:ms≠[]):atI (ms.map V.int) (-1)=some (.int (ms.getLastD 0)):=by
 obtain⟨l,x,rfl⟩:∃ l x,ms=l++[x]:=⟨ms.dropLast,ms.getLast h,(List.dropLast_concat_getLast h).symm⟩
 rw[List.map_append,List.getLastD_concat]
 exact Eg _ _
section
variable {P:Program} {w:World} {K:PySem.W.Frag} {mg:Str->Option Value} {base:Heap} {A:Ad}
theorem kN:FnScope ["disk","segments"] ["disk"] (aH iP):=‹0›
set_option maxHeartbeats 1000000 in
theorem sN {f:Addr} {fd:FuncData} (F:Fun K "segments_on" "segments_on" iP f fd) (T:TxtQ K mg A) (c_segment_of:‹8› "segment_of" 2 ["name"] iI) (mD_names:‹9› A.disk "names" 1 ["self"] (rJ A.disk)):‹7› 3 f fd ["disk"] (dY A):=by
 refine F.okX kN (fun vs H Q E h=>?_) (fun cdv A' outer s H vs Q E hr h=>?_)
 ·obtain⟨dk,df,kvs,D,ns,rfl,_⟩:=h
  rfl
 ·obtain⟨dk,df,kvs,D,ns,rfl,hD,hn,hok,hl,q,qe⟩:=h
  refine⟨_,@aA _ _ _ _ _ (@a8 _ _ (1) _ _ _ _ kN.nd (by rfl) (by first | exact Or.inl (by rfl) | exact Or.inr (by rfl)) (@bC _ _ _ _ _ _ _ _ _ yC (by rfl) T.n_sorted l0 (@f9 _ _ _ _ _ _ _ _ (@eP _ _ _ _ _ _ _ _ _ _ _ ["name"] [] (by rfl) (@cP _ K _ _ _ (@cU _ _ _ _ _ _ _ _ _ _ _ _ mD_names T.cl_Disk ‹12› aW ‹17› ⋯) ⋯) (fun C s2 H2 ex=>(@bW _ _ (0) _ (show List.Nodup (["name"]:List Str) by decide +kernel) (by rfl) (Or.inl (by rfl)) ⋯)) ‹26› (fun C s2 H2 ex=>(@bB _ _ _ _ _ _ _ _ _ _ _ c_segment_of ‹12› aW ‹33› ⋯ ⋯ ⋯ ⋯)) ⋯ ⋯ ⋯ ⋯) (@aB _)) ⋯ ⋯ ⋯ ⋯) ⋯ ⋯) (@aA _ _ _ _ _ (@a9 _ _ _ _ _ _ _ _ (@PW.pt _ _ _ (@jV _ _ _ _ _ _ _ (@e8 _ K _ _ ‹18› ⋯ ⋯) (@gO _ _ _ _ (@aS _ _ _ _ _ _ _ _ kD (@bO _ _ _ _ _ _ _ _ cZ (@bO _ _ _ _ _ _ _ _ pM ‹40› (@c8 _ _ _ _ _ _ _ (eM K) ‹18› ‹21› (fun _ _=>rfl))) ‹21›) ‹31› (aX _))))) ‹19› (@aP _)) (@aC _ _ _ (@bA _ _ _ _ ‹18›))),?_⟩
  obtain⟨dx,h1⟩:=hD.self
  have ll:=congrArg List.length hn
  rw[List.length_map,List.length_map]at ll
  refine⟨_,rfl,dk,dx,_,rfl,h1,rfl,dk,df,kvs,D,rfl,hD,by omega,fun p1 ts perm1 so1 H1 S1 g1 hp1=>?_⟩
  rw[hn]at perm1
  obtain⟨ks,permk,rfl⟩:=DX aN perm1
  have lk:=permk.length_eq
  refine⟨p1,rfl,⟨_,SqL.of g1⟩,?_⟩
  refine fE (cO (K:=K) (SqL.of g1)) (by rw[List.length_map,List.length_map,lk]; exact Nat.le_trans (show _<=1000 by omega) (by decide)) (fun i y _=>∃ n,ks[i]? = some n/\y = .int n) (fun _ _ _ _ _ h=>h) (fun σ=>∃ z,σ = [z]) ?z0 ?_ ?_
  case z0=>exact⟨none,rfl⟩
  ·intro i x σc H3 hi hσ s3 hx Q' hQ'
   obtain⟨z,rfl⟩:=hσ
   rw[List.getElem?_map,List.getElem?_map]at hx
   cases e:ks[i]? with
   | none=>rw[e]at hx; cases hx
   | some n=>
    rw[e]at hx
    cases hx
    exact⟨_,rfl,n,rfl,hok n (permk.mem_iff.mp (List.mem_of_getElem? e)),hQ' _ _ _ ⟨_,rfl⟩ (aF.refl _) ⟨n,e,rfl⟩⟩
  intro D2 ys H2 hD2 S2 gD hlen hR
  have ey:ys=ks.map V.int:=by
   apply List.ext_getElem?
   intro j
   cases ej:ys[j]? with
   | none=>
    have h1:=List.getElem?_eq_none_iff.mp ej
    rw[List.getElem?_eq_none_iff.mpr]
    rw[List.length_map]
    rw[List.length_map,List.length_map]at hlen
    omega
   | some y=>
    obtain⟨n,e1,rfl⟩:=hR j y ej
    rw[List.getElem?_map,e1]
    rfl
  subst ey
  refine⟨D2,ks,rfl,gD,by omega,fun p ms permm pwm hp=>?_⟩
  have T3:=aJ (o:=.lst (ms.map V.int)) hp
  have t3:upd H2 p (.lst (ms.map V.int)) p=some (.lst (ms.map V.int)):=aE
  generalize upd H2 p (.lst (ms.map V.int))=H3 at T3 t3 ⊢
  have perm:=permm.trans permk
  have S03:=S1.trans (S2.trans T3)
  have hp0:H p=none:=by
   cases e:H p with
   | none=>rfl
   | some o=>exact absurd ((S1.trans S2) _ _ e) (by rw[hp]; intro z; cases z)
  refine⟨_,rfl,p,_,rfl,SqL.of t3,?_⟩
  dsimp only
  by_cases hm:ms=[]
  ·subst hm
   refine aV (aV (bE rfl ?_))
   exact⟨_,rfl,q _ perm pwm (.inl rfl) p H3 S03 hp0 t3⟩
  obtain⟨x,ms',em⟩:=List.exists_cons_of_ne_nil hm
  have hem:(!(ms.map V.int).isEmpty)=true:=by rw[em]; rfl
  rw[hem]
  refine aT ?_
  refine⟨_,rfl,1,rfl,p,_,_,.int (ms.getLastD 0),rfl,rfl,SqL.of t3,qU hm,_,rfl,p,_,_,.int (ms.headD 0),rfl,rfl,SqL.of t3,bY (by decide) (by rw[em]; rfl),_,_,rfl,rfl,_,_,rfl,rfl,_,rfl,p,_,rfl,.inl (SqL.of t3),rfl,_,rfl,?_⟩
  rw[List.length_map]
  by_cases hg:ms.getLastD 0 - ms.headD 0+1=(ms.length:Int)
  ·rw[decide_eq_true (show V.int (ms.getLastD 0 - ms.headD 0+1)=V.int (ms.length:Int) by rw[hg])]
   refine aV (bE rfl ?_)
   exact⟨_,rfl,q _ perm pwm (.inr hg) p H3 S03 hp0 t3⟩
  ·rw[lY hg]
   refine aT ?_
   exact⟨(by show 1<=sizeLine; decide),qe _ perm pwm (fun z=>z.elim hm hg) H3 S03⟩
end
end Qh
end
section
namespace Qh
open PySem L2
noncomputable abbrev oZ:Stmt:=top 48
noncomputable def bJ (rs:List Rw):List Rw:=(rs.reverse.dropWhile fun r=>decide (r.1=("part" : Str))).reverse
theorem Gk:∀ (rs:List Rw) (k:Nat),k<=rs.length->(∀ j r,k<=j->rs[j]? = some r->r.1 = "part")->(∀ r,k≠0->rs[k - 1]? = some r->r.1 ≠ "part")->rs.take k=bJ rs:=by
 intro rs k hk h1 h2
 have e:rs.reverse=(rs.drop k).reverse++(rs.take k).reverse:=by
  rw[<- List.reverse_append,List.take_append_drop]
 have hall:∀ r∈(rs.drop k).reverse,decide (r.1 = "part")=true:=by
  intro r hr
  rw[List.mem_reverse]at hr
  obtain⟨j,hj⟩:=List.mem_iff_getElem?.mp hr
  rw[List.getElem?_drop]at hj
  exact decide_eq_true (h1 _ r (Nat.le_add_right _ _) hj)
 unfold bJ
 rw[e,List.dropWhile_append_of_pos hall]
 have:(rs.take k).reverse.dropWhile (fun r=>decide (r.1=("part" : Str)))=(rs.take k).reverse:=by
  by_cases hk0:k=0
  ·subst hk0; rfl
  ·have hlt:k - 1<rs.length:=by omega
   have et:rs.take k=rs.take (k - 1)++[rs[k - 1]]:=by
    have h:=List.take_succ (l:=rs) (i:=k - 1)
    rw[List.getElem?_eq_getElem hlt,show k - 1+1=k by omega]at h
    exact h
   rw[et,List.reverse_append,List.reverse_singleton,List.singleton_append,List.dropWhile_cons_of_neg]
   rw[decide_eq_true_eq]
   exact h2 _ hk0 (List.getElem?_eq_getElem hlt)
 rw[this,List.reverse_reverse]
noncomputable def jE:Sp:=fun vs H Q _=>∃ (a:Addr) (rs:List Rw),vs=[.ref a]/\Den H (.list (rs.map cS)) (.ref a)/\rs.length<=100000/\∀ p H',aF H H'->H p=none->Den H' (.list ((bJ rs).map cS)) (.ref p)->Q (.ref p) H'
theorem tR {H:Hp}:∀ {ds:List PyData} {xs:List V} (k:Nat),aU H ds xs->aU H (ds.take k) (xs.take k)
 | _,_,0,_=>by simp [aU]
 | [],xs,k+1,h=>by
  simp only[aU]at h
  subst h
  simp [aU]
 | d::ds,xs,k+1,h=>by
  simp only[aU]at h
  obtain⟨y,ys,rfl,h1,h2⟩:=h
  rw[List.take_succ_cons,List.take_succ_cons]
  simp only[aU]
  exact⟨_,_,rfl,h1,tR k h2⟩
section
variable {P:Program} {w:World} {K:PySem.W.Frag} {mg:Str->Option Value} {base:Heap} {A:Ad}
theorem dU:FnScope ["rows","many"] ["rows"] (aH oZ):=‹0›
theorem Af {f:Addr} {fd:FuncData} (F:Fun K "without_last_parts" "without_last_parts" oZ f fd) (T:TxtQ K mg A):‹7› 1 f fd ["rows"] jE:=by
 refine F.okX dU (fun vs H Q E h=>?_) (fun cdv A' outer s H vs Q E hr h=>?_)
 ·obtain⟨a,rs,rfl,_⟩:=h
  rfl
 ·obtain⟨a,rs,rfl,hd,hl,q⟩:=h
  refine⟨_,@aA _ _ _ _ _ (@a8 _ _ (1) _ _ _ _ dU.nd (by rfl) (by first | exact Or.inl (by rfl) | exact Or.inr (by rfl)) ‹32› ⋯ ⋯) (@aA _ _ _ _ _ (@sH _ _ _ _ _ _ (qH fM) (@PW.pt _ _ _ (@jV _ _ _ _ _ _ _ (@aS _ _ _ _ _ _ _ _ vF ‹18› ‹21› (aX _)) (@gO _ _ _ _ (@aS _ _ _ _ _ _ _ _ lA (@c8 _ _ _ _ _ _ _ (cQ K) (@c8 _ _ _ _ _ _ _ (eM K) ‹17› (@bO _ _ _ _ _ _ _ _ pM ‹18› ‹21›) (fun _ _=>rfl)) ‹21› (fun _ _=>rfl)) (@dW _ _ _ _) (aX _))))) (@aC _ _ _ (@DU _ _ (1) _ _ _ _ _ _ dU.nd (by rfl) (by first | exact Or.inl (by rfl) | exact Or.inr (by rfl)) ‹21› Gc ⋯))) (@aC _ _ _ (@bA _ _ _ _ (@e9 _ _ _ _ _ _ _ _ _ _ (rM K) ‹17› (@iG _) (@fR _ _ _ ‹18›))))),?_⟩
  simp only[Den]at hd
  obtain⟨_,xs,e,ha,hds⟩:=hd
  cases e
  have hx:=hds.length
  rw[List.length_map]at hx
  refine⟨_,rfl,a,_,rfl,.inl (SqL.of ha),?_⟩
  refine⟨fun m σ H3=>H3=H/\m<=rs.length/\σ = [some (.ref a),some (.int (m:Int))]/\(∀ j r,m<=j->rs[j]? = some r->r.1 = "part"),⟨rs.length,rfl,Nat.le_refl _,by rw[hx]; rfl,fun j r hj e=>absurd (List.getElem?_eq_some_iff.mp e).1 (by omega)⟩,?_⟩
  rintro m σ H3 ⟨rfl,hm,rfl,hp⟩
  have fin:(∀ r,m≠0->rs[m - 1]? = some r->r.1 ≠ "part")->Fy (tSl (GC K) (gH 0) wF (Fm (gH 1))) ({ nx:=fun x H'=>Q V.non H',rt:=Q }:Ends) [some (.ref a),some (.int (m:Int))] H3:=by
   intro hn
   have ec:=Gk rs m hm hp hn
   refine⟨_,rfl,_,rfl,_,rfl,a,xs,rfl,SqL.of ha,fun p hp'=>?_⟩
   have S:=aJ (o:=.lst (fN xs none (some (m:Int)))) hp'
   refine q p _ S hp' ?_
   rw[BC (by omega)]at S ⊢
   simp only[Den]
   refine⟨p,_,rfl,aE,?_⟩
   rw[<- ec,List.map_take]
   exact(tR m hds).same S
  refine⟨_,rfl,_,_,rfl,rfl,_,rfl,?_⟩
  show if decide ((0:Int)<(m:Int))=true then _ else _
  by_cases h0:m=0
  ·rw[if_neg (by rw[decide_eq_true_eq]; omega)]
   exact aV (fin (fun r z=>absurd h0 z))
  rw[if_pos (decide_eq_true (by omega))]
  have hlt:m - 1<rs.length:=by omega
  have er:rs[m - 1]? = some rs[m - 1]:=List.getElem?_eq_getElem hlt
  have exm:xs[m - 1]? = some xs[m - 1]:=List.getElem?_eq_getElem (by omega)
  obtain⟨d,hdm,dn⟩:=hds.get exm
  rw[List.getElem?_map,er]at hdm
  cases (Option.some.inj hdm:cS rs[m - 1]=d)
  obtain⟨t,b,ev,gt,gb⟩:=nQ dn
  rw[ev]at exm
  refine⟨_,rfl,_,rfl,_,_,rfl,rfl,a,_,_,.ref t,rfl,rfl,SqL.of ha,?_,t,_,_,.str rs[m - 1].1,rfl,rfl,SqT.of gt,bY (by decide) rfl,rfl,_,rfl,?_⟩
  ·have:((m:Int) - 1)=((m - 1:Nat):Int):=by omega
   rw[this]
   exact bP exm
  by_cases hk:rs[m - 1].1 = "part"
  ·rw[j7 hk]
   refine aT ⟨fun σ' H'=>∃ m',m'<m/\H'=H3/\m'<=rs.length/\σ'=[some (.ref a),some (.int (m':Int))]/\(∀ j r,m'<=j->rs[j]? = some r->r.1 = "part"),fun _ _ h=>h,?_⟩
   refine⟨_,rfl,_,_,rfl,rfl,?_⟩
   refine⟨m - 1,by omega,rfl,by omega,?_,fun j r hj e=>?_⟩
   ·have:((m:Int) - 1)=((m - 1:Nat):Int):=by omega
    rw[<- this]
    rfl
   ·by_cases hj':j=m - 1
    ·rw[hj',er]at e
     rw[<- Option.some.inj e]
     exact hk
    ·exact hp j r (by omega) e
  ·rw[lW hk]
   refine aV (fin fun r _ e=>?_)
   rw[er]at e
   rw[<- Option.some.inj e]
   exact hk
end
end Qh
end
section
namespace Qh
open PySem L2
noncomputable abbrev o0:Stmt:=top 49
theorem u5 {n:Int} (h:cR n):∀ c∈(aN n).cps.toList,c=115\/(48<=c/\c<=57):=by
 intro c hc
 rw[BP]at hc
 rcases List.mem_cons.mp hc with z | z
 ·exact .inl z
 ·exact .inr (sQ h.1 c z)
theorem hG {n:Int} (h:cR n):cN bV 8 (.str (aN n))=true:=by
 have h1:1<=(aN n).length:=by
  have:=(qS h).1
  unfold aN
  rw[strLen_append]
  omega
 have h2:=wN h
 have hd:∀ c:Nat,c<58->48<=c->inS bV c=true:=by decide +kernel
 have hs:inS bV 115=true:=by decide +kernel
 show ((decide (1<=((aN n).length:Int)) && decide (((aN n).length:Int)<=8)) && (aN n).cps.toList.all (inS bV))=true
 rw[decide_eq_true (by omega),decide_eq_true (by omega),Bool.true_and,Bool.true_and,List.all_eq_true]
 intro c hc
 rcases u5 h c hc with z | ⟨z1,z2⟩
 ·rw[z]; exact hs
 ·exact hd c (by omega) z1
theorem mL {n:Int} (h:cR n):lB (.str (aN n)):=by
 intro x e
 injection e with e
 subst e
 refine⟨Nat.le_trans (wN h) (by decide),?_⟩
 unfold kF
 rw[<- Array.all_toList,List.all_eq_true]
 intro c hc
 rcases u5 h c hc with z | ⟨z1,z2⟩ <;> exact decide_eq_true (by omega)
theorem nR:∀ {f:Nat} {ns:List Int} {ds:List PyData} {k:Nat},dN f ns=some (ds,k)->ds.all aZ=true/\7 * ds.length<=ns.length
 | 0,_,_,_,h=>by cases h
 | f+1,ns,ds,k,h=>by
  rw[mV]at h
  cases e:tQ ns with
  | none=>
   rw[e]at h
   cases h
   exact⟨rfl,Nat.zero_le _⟩
  | some m=>
   rw[e]at h
   dsimp only at h
   cases e2:mC (ns.take m) with
   | none=>rw[e2]at h; cases h
   | some d=>
    rw[e2]at h
    dsimp only at h
    rw[Option.map_eq_some_iff]at h
    obtain⟨⟨ds',k'⟩,h1,h2⟩:=h
    cases h2
    obtain⟨i1,i2⟩:=nR h1
    obtain⟨m7,mle⟩:=Bd e
    rw[List.length_drop]at i2
    have hd:aZ d=true:=by
     unfold mC at e2
     split at e2
     ·split at e2
      ·dsimp only at e2
       split at e2
       ·cases e2; assumption
       ·cases e2
      ·cases e2
     ·cases e2
    rw[List.all_cons,hd,List.length_cons]
    exact⟨i1,by show 7 * (ds'.length+1)<=ns.length; omega⟩
noncomputable def lP (bs:List Int) (last:Bool) (rs:List Rw):Option (List Rw):=
 match dN (bs.length+1) bs with
 | none=>none
 | some (_,k)=>if last=false/\(0<k\/(bJ rs).length<rs.length) then none else if last=false/\bJ rs=[] then none else if bJ rs≠[]/\((bJ rs).headD ("from",0,[])).1 ≠ "from" then none else some (bJ rs)
noncomputable def mE (A:Ad):Sp:=fun vs H Q E=>∃ (dk df:Addr) (kvs:List (Key × V)) (D:Dk) (seg last:Int) (bs:List Int),vs=[.ref dk,.int seg,.int last]/\DiskAt A.disk H dk df kvs D/\cR seg/\aI D.fs (aN seg)=some bs/\(∀ b∈bs,0<=b/\b<=255)/\bs.length<=100000/\
 (dN (bs.length+1) bs=none->∀ H',aF H H'->E (.ref A.broken) none H')/\
 (∀ rs k,dN (bs.length+1) bs=some (rs.map cS,k)->(∀ r∈rs,aZ (cS r)=true)->(lP bs (decide (seg=last)) rs=none->∀ H',aF H H'->E (.ref A.broken) none H')/\(∀ rs',lP bs (decide (seg=last)) rs=some rs'->∀ p H',aF H H'->H p=none->Den H' (.list (rs'.map cS)) (.ref p)->Q (.ref p) H'))
section
variable {P:Program} {w:World} {K:PySem.W.Frag} {mg:Str->Option Value} {base:Heap} {A:Ad}
theorem mM:FnScope ["disk","segment","last","found","rows"] ["disk","segment","last"] (aH o0):=‹0›
set_option maxHeartbeats 1000000 in
theorem Ag {f:Addr} {fd:FuncData} (F:Fun K "rows_of" "rows_of" o0 f fd) (T:TxtQ K mg A) (c_segment_name:‹2›) (c_rows_in:‹8› "rows_in" 5 ["some"] (gX A.badRow A.broken)) (c_without_last_parts:‹8› "without_last_parts" 1 ["rows"] jE) (mD_read:‹9› A.disk "read" 4 ["self","name"] (nF A.disk A.badName A.missing)):‹7› 6 f fd ["disk","segment","last"] (mE A):=by
 refine F.okX mM (fun vs H Q E h=>?_) (fun cdv A' outer s H vs Q E hr h=>?_)
 ·obtain⟨dk,df,kvs,D,seg,last,bs,rfl,_⟩:=h
  rfl
 ·obtain⟨dk,df,kvs,D,seg,last,bs,rfl,hD,hs,hb,hby,hbl,qb,q⟩:=h
  refine⟨_,@aA _ _ _ _ _ (@a8 _ _ (3) _ _ _ _ mM.nd (by rfl) (by first | exact Or.inl (by rfl) | exact Or.inr (by rfl)) (@bB _ _ _ _ _ _ _ _ _ _ _ c_rows_in ‹12› bK (@cJ _ _ _ _ _ _ _ _ (@cB _ _ _ _ _ _ _ _ _ _ _ _ _ _ _ mD_read T.cl_Disk ‹12› bK ‹17› (@cJ _ _ _ _ _ _ _ _ (@bB _ _ _ _ _ _ _ _ _ _ _ c_segment_name ‹12› aW (@aD _ _ _ _ _ _ ‹18› (@aB _)) ⋯ ⋯ ⋯ ⋯) (@aB _)) ⋯ ⋯ ⋯) (@aB _)) ⋯ ⋯ ⋯ ⋯) ⋯ ⋯) (@aA _ _ _ _ _ (@a8 _ _ (4) _ _ _ _ mM.nd (by rfl) (by first | exact Or.inl (by rfl) | exact Or.inr (by rfl)) (@bB _ _ _ _ _ _ _ _ _ _ _ c_without_last_parts ‹12› aW (@aM _ _ _ _ _ _ _ ‹34› (@aB _)) ⋯ ⋯ ⋯ ⋯) ⋯ ⋯) (@aA _ _ _ _ _ (@a9 _ _ _ _ _ _ _ _ (@PW.pt _ _ _ (@jV _ _ _ _ _ _ _ (@aS _ _ _ _ _ _ _ _ kD ‹18› ‹22› (aX _)) (@gO _ _ _ _ (@PW.pt _ _ _ (@kC _ _ _ _ _ _ _ (@aS _ _ _ _ _ _ _ _ vF ‹34› ‹21› (aX _)) (@hW _ _ _ _ (@aS _ _ _ _ _ _ _ _ vE (@bC _ _ _ _ _ _ _ _ _ (dR K) (by rfl) T.n_len iC (@aD _ _ _ _ _ _ ‹25› (@aB _)) ⋯ ⋯ ⋯ ⋯) (@bC _ _ _ _ _ _ _ _ _ (dR K) (by rfl) T.n_len iC (@aM _ _ _ _ _ _ _ ‹34› (@aB _)) ⋯ ⋯ ⋯ ⋯) (aX _)))))))) ‹19› (@aP _)) (@aA _ _ _ _ _ (@a9 _ _ _ _ _ _ _ _ (@PW.pt _ _ _ (@jV _ _ _ _ _ _ _ (@aS _ _ _ _ _ _ _ _ kD ‹18› ‹22› (aX _)) (@gO _ _ _ _ (@cF _ _ _ _ (@e8 _ K _ _ ‹25› ⋯ ⋯))))) ‹19› (@aP _)) (@aA _ _ _ _ _ (@a9 _ _ _ _ _ _ _ _ (@PW.pt _ _ _ (@jV _ _ _ _ _ _ _ (@e8 _ K _ _ ‹25› ⋯ ⋯) (@gO _ _ _ _ (@aS _ _ _ _ _ _ _ _ kD (@c8 _ _ _ _ _ _ _ (cQ K) (@c8 _ _ _ _ _ _ _ (eM K) ‹25› ‹21› (fun _ _=>rfl)) ‹21› (fun _ _=>rfl)) (@dW _ _ _ _) (aX _))))) ‹19› (@aP _)) (@aC _ _ _ (@bA _ _ _ _ ‹25›)))))),?_⟩
  obtain⟨dx,h1⟩:=hD.self
  have hw:=hG hs
  refine⟨_,rfl,dk,dx,_,rfl,h1,rfl,_,rfl,seg,rfl,hs,dk,df,kvs,D,.str (aN seg),.str (aN seg),rfl,hD,by simp only[Den],mL hs,(fun z=>by rw[hw]at z; cases z),fun n e _=>?_⟩
  injection e with e
  subst e
  refine⟨(fun z=>by rw[hb]at z; cases z),fun bs' e p1 H1 S1 g1=>?_⟩
  rw[hb]at e
  cases e
  have isb:cI (.tuple (bs.map .int))=true:=qZ hby
  refine⟨.ref p1,.tuple (bs.map .int),rfl,by simp only[Den]; exact⟨p1,_,rfl,g1,bR.mpr rfl⟩,(fun bs' e=>?_),(fun z=>by rw[isb]at z; cases z),fun _=>?_⟩
  ·injection e with e
   rw[<- e,List.length_map]
   exact Nat.le_trans hbl (by decide)
  rw[eN]
  refine⟨fun ds k er p2 H2 S2 d2=>?_,fun er H2 S2=>qb er H2 (S1.trans S2)⟩
  obtain⟨rall,rlen⟩:=nR er
  obtain⟨rs,rfl,hrs⟩:=BR rall
  rw[List.length_map]at rlen
  obtain⟨qn,qs⟩:=q rs k er hrs
  have S02:=S1.trans S2
  have d2':=d2
  simp only[Den,aU]at d2'
  obtain⟨_,_,e1,gf,_,_,rfl,⟨pL,ys,rfl,gL,dL⟩,_,_,rfl,rfl,rfl⟩:=d2'
  cases e1
  have lL:=dL.length
  rw[List.length_map]at lL
  refine⟨_,rfl,p2,_,_,.ref pL,rfl,rfl,SqT.of gf,bY (by decide) rfl,pL,rs,rfl,by simp only[Den]; exact⟨pL,ys,rfl,gL,dL⟩,by omega,fun p3 H3 S3 hp3 d3=>?_⟩
  have S03:=S02.trans S3
  have h03:H p3=none:=S02.free hp3
  simp only[Den]at d3
  obtain⟨_,zs,e3,g3,dz⟩:=d3
  cases e3
  have lz:=dz.length
  rw[List.length_map]at lz
  unfold lP at qn qs
  rw[er]at qn qs
  dsimp only at qn qs
  have gf3:=S3 _ _ gf
  have gL3:=S3 _ _ gL
  have one:(1:Nat)<=sizeLine:=by decide
  have fin:(bJ rs≠[]/\((bJ rs).headD ("from",0,[])).1 ≠ "from"->E (.ref A.broken) none H3)->(¬ (bJ rs≠[]/\((bJ rs).headD ("from",0,[])).1 ≠ "from")->Q (.ref p3) H3)->By (Fz (F3 (tLT K (gH 4)) (l9 (tOp rNe (tOp (GE K) (tOp (DN K) (gH 4) (tC (V.int 0))) (tC (V.int 0))) (tC (V.str "from"))))) (C3 A.broken (fun c H=>E c none H) (dX (tC (V.str "a segment begins with another row than from")) eQ)) C4) (Fy (gH 4)) ({ nx:=fun x H'=>Q V.non H',rt:=Q }:Ends) [some (.ref dk),some (.int seg),some (.int last),some (.ref p2),some (.ref p3)] H3:=by
   intro f1 f2
   refine⟨_,rfl,p3,_,rfl,SqL.of g3,?_⟩
   dsimp only
   cases hc:bJ rs with
   | nil=>
    rw[hc]at dz lz
    have:zs=[]:=List.length_eq_zero_iff.mp lz
    subst this
    refine aV (aV (bE rfl ?_))
    exact⟨_,rfl,f2 (fun z=>z.1 hc)⟩
   | cons r rs'=>
    rw[hc]at dz lz f1 f2
    cases zs with
    | nil=>simp at lz
    | cons z zs=>
    refine aT ?_
    rw[List.map_cons]at dz
    simp only[aU]at dz
    obtain⟨_,_,ez,dr,_⟩:=dz
    cases ez
    obtain⟨t,b,rfl,gt,gb⟩:=nQ dr
    refine⟨_,rfl,p3,_,_,.ref t,rfl,rfl,SqL.of g3,bY (by decide) rfl,t,_,_,.str r.1,rfl,rfl,SqT.of gt,bY (by decide) rfl,rfl,_,rfl,?_⟩
    by_cases hk:r.1 = "from"
    ·rw[j7 hk]
     refine aV (bE rfl ?_)
     exact⟨_,rfl,f2 (fun z=>z.2 hk)⟩
    ·rw[lW hk]
     exact aT ⟨one,f1 ⟨by simp,hk⟩⟩
  refine⟨_,rfl,_,rfl,rfl,_,rfl,?_⟩
  dsimp only
  by_cases hsl:seg=last
  ·rw[decide_eq_true hsl]at qn qs
   rw[decide_eq_true (show V.int seg=V.int last by rw[hsl])]
   refine aV (aV (bE rfl ?_))
   refine⟨_,rfl,_,rfl,rfl,_,rfl,?_⟩
   rw[decide_eq_true (show V.int seg=V.int last by rw[hsl])]
   refine aV (aV (bE rfl ?_))
   rw[if_neg (fun z=>by cases z.1),if_neg (fun z=>by cases z.1)]at qn qs
   refine fin (fun z=>qn (if_pos z) H3 S03) (fun z=>qs _ (if_neg z) p3 H3 S03 h03 ?_)
   simp only[Den]
   exact⟨p3,zs,rfl,g3,dz⟩
  rw[decide_eq_false hsl]at qn qs
  rw[lY hsl]
  refine aT ?_
  refine⟨_,rfl,p2,_,_,.int (k:Int),rfl,rfl,SqT.of gf3,bY (by decide) rfl,_,_,rfl,rfl,_,rfl,?_⟩
  show if decide ((0:Int)<(k:Int))=true then _ else _
  by_cases hk:0<k
  ·rw[if_pos (decide_eq_true (by omega))]
   rw[if_pos ⟨rfl,.inl hk⟩]at qn
   exact aT ⟨one,qn rfl H3 S03⟩
  rw[if_neg (by rw[decide_eq_true_eq]; omega)]
  refine⟨_,rfl,p3,_,rfl,.inl (SqL.of g3),_,rfl,p2,_,_,.ref pL,rfl,rfl,SqT.of gf3,bY (by decide) rfl,pL,_,rfl,.inl (SqL.of gL3),_,_,rfl,rfl,_,rfl,?_⟩
  rw[lz,lL]
  by_cases hc:(bJ rs).length<rs.length
  ·rw[if_pos ⟨rfl,.inr hc⟩]at qn
   rw[decide_eq_true (show ((bJ rs).length:Int)<(rs.length:Int) by omega)]
   exact aT ⟨one,qn rfl H3 S03⟩
  rw[if_neg (fun z=>z.2.elim hk hc)]at qn qs
  rw[decide_eq_false (show ¬ ((bJ rs).length:Int)<(rs.length:Int) by omega)]
  refine aV (bE rfl ?_)
  refine⟨_,rfl,_,rfl,rfl,_,rfl,?_⟩
  rw[lY hsl]
  refine aT ?_
  refine⟨_,rfl,p3,_,rfl,SqL.of g3,?_⟩
  dsimp only
  by_cases hn:bJ rs=[]
  ·rw[if_pos ⟨rfl,hn⟩]at qn
   have:zs=[]:=List.length_eq_zero_iff.mp (by rw[lz,hn]; rfl)
   subst this
   exact aT ⟨one,qn rfl H3 S03⟩
  rw[if_neg (fun z=>hn z.2)]at qn qs
  have:(!zs.isEmpty)=true:=by
   cases zs with
   | nil=>exact absurd (List.length_eq_zero_iff.mp lz.symm) hn
   | cons _ _=>rfl
  rw[this]
  refine aV (bE rfl ?_)
  refine fin (fun z=>qn (if_pos z) H3 S03) (fun z=>qs _ (if_neg z) p3 H3 S03 h03 ?_)
  simp only[Den]
  exact⟨p3,zs,rfl,g3,dz⟩
end
end Qh
end
section
namespace Qh
open PySem L2
noncomputable abbrev pF:Stmt:=top 50
noncomputable def uU:PyData->Rw
 | .tuple [.str k,.int n,b]=>(k,n,bD b)
 | _=>("from",0,[])
theorem Fv (r:Rw):uU (cS r)=r:=by
 obtain⟨k,n,b⟩:=r
 show (k,n,bD (.tuple (b.map .int)))=_
 rw[eN]
theorem wE (rs:List Rw):(rs.map cS).map uU=rs:=by
 rw[List.map_map]
 have:uU ∘ cS=id:=funext Fv
 rw[this,List.map_id]
noncomputable def B6 (bs:List Int) (last:Bool):Option (List Rw):=match dN (bs.length+1) bs with
 | none=>none
 | some r=>lP bs last (r.1.map uU)
noncomputable def oF (D:Dk) (last:Int):List Int->Bk->Option Bk
 | [],B=>some B
 | s::ss,B=>match aI D.fs (aN s) with
  | none=>none
  | some bs=>match B6 bs (decide (s=last)) with
   | none=>none
   | some rs=>match dF s B rs with
    | none=>none
    | some B'=>oF D last ss B'
theorem BF (D:Dk) (last s:Int) (ss:List Int) (B:Bk):oF D last (s::ss) B=match aI D.fs (aN s) with
  | none=>none
  | some bs=>match B6 bs (decide (s=last)) with
   | none=>none
   | some rs=>match dF s B rs with
    | none=>none
    | some B'=>oF D last ss B':=rfl
noncomputable def kB (D:Dk) (n:Int):Nat:=((aI D.fs (aN n)).getD []).length
theorem oA (rs:List Rw):(bJ rs).length<=rs.length:=by
 unfold bJ
 rw[List.length_reverse]
 exact Nat.le_trans (List.dropWhile_sublist _).length_le (by rw[List.length_reverse]; exact Nat.le_refl _)
theorem yP {bs:List Int} {l:Bool} {rs rs':List Rw} (h:lP bs l rs=some rs'):rs'=bJ rs:=by
 unfold lP at h
 split at h
 ·cases h
 ·split at h
  ·cases h
  split at h
  ·cases h
  split at h
  ·cases h
  ·cases h
   rfl
theorem n8 {rs:List Rw}:∀ r∈bJ rs,r∈rs:=fun r h=>by
 unfold bJ at h
 rw[List.mem_reverse]at h
 have:=(List.dropWhile_sublist _).subset h
 rwa [List.mem_reverse]at this
structure DiskOk (D:Dk) (ns:List Int):Prop where
 keys:D.fs.map (·.1)=ns.map aN
 nums:∀ n∈ns,cR n
 few:ns.length<500
 bytes:∀ n bs,aI D.fs n=some bs->(∀ b∈bs,0<=b/\b<=255)/\bs.length<=100000
 size:(ns.map (kB D)).sum<=5600
theorem lC {fs:List (Str × List Int)} {n:Str} (h:n∈fs.map (·.1)):∃ bs,aI fs n=some bs:=by
 unfold aI
 cases e:fs.find? fun p=>decide (p.1=n) with
 | none=>
  rw[List.find?_eq_none]at e
  rw[List.mem_map]at h
  obtain⟨p,hp,he⟩:=h
  exact absurd (decide_eq_true he) (e p hp)
 | some p=>exact⟨p.2,rfl⟩
noncomputable def mK (A:Ad):Sp:=fun vs H Q E=>∃ (dk df:Addr) (kvs:List (Key × V)) (D:Dk) (ns:List Int),vs=[.ref dk]/\DiskAt A.disk H dk df kvs D/\DiskOk D ns/\∀ ms,List.Perm ms ns->ms.Pairwise (· <= ·)->
 (¬ iH ms->∀ H',aF H H'->E (.ref A.broken) none H')/\(iH ms->(oF D (ms.getLastD 0) ms ⟨[],0,[]⟩=none->∀ H',aF H H'->E (.ref A.broken) none H')/\
  ∀ B,oF D (ms.getLastD 0) ms ⟨[],0,[]⟩=some B->7 * (B.es.length+B.parts.length)<=5600->∀ bk de dp H',aF H H'->H bk=none->H de=none->H dp=none->BookAt A.book H' bk de dp B->Q (.ref bk) H')
section
variable {P:Program} {w:World} {K:PySem.W.Frag} {mg:Str->Option Value} {base:Heap} {A:Ad}
theorem hJ:FnScope ["disk","segments","book","segment","row"] ["disk"] (aH pF):=‹0›
set_option maxHeartbeats 2000000 in
theorem As {f:Addr} {fd:FuncData} (F:Fun K "book_of" "book_of" pF f fd) (T:TxtQ K mg A) (c_segments_on:‹8› "segments_on" 3 ["disk"] (dY A)) (c_rows_of:‹8› "rows_of" 6 ["disk","segment","last"] (mE A)) (c_Book:Maker P w K mg base "Book" A.book 1 ["self"] (wJ A.book)) (mB_enter:‹9› A.book "enter" 3 ["self","row","segment"] (nI A.book A.broken)):‹7› 7 f fd ["disk"] (mK A):=by
 refine F.okX hJ (fun vs H Q E h=>?_) (fun cdv A' outer s H vs Q E hr h=>?_)
 ·obtain⟨dk,df,kvs,D,ns,rfl,_⟩:=h
  rfl
 ·obtain⟨dk,df,kvs,D,ns,rfl,hD,ok,q⟩:=h
  refine⟨_,@aA _ _ _ _ _ (@a8 _ _ (1) _ _ _ _ hJ.nd (by rfl) (by first | exact Or.inl (by rfl) | exact Or.inr (by rfl)) (@bB _ _ _ _ _ _ _ _ _ _ _ c_segments_on ‹12› bK ‹33› ⋯ ⋯ ⋯ ⋯) ⋯ ⋯) (@aA _ _ _ _ _ (@a8 _ _ (2) _ _ _ _ hJ.nd (by rfl) (by first | exact Or.inl (by rfl) | exact Or.inr (by rfl)) (@GK _ _ _ _ _ _ _ _ _ c_Book ‹12› bK ⋯ ⋯) ⋯ ⋯) (@aA _ _ _ _ _ (@jW _ _ _ _ _ _ _ _ (qH fM) (by rfl) (@cP _ K _ _ _ ‹18› ⋯) (@bW _ _ (3) _ hJ.nd (by rfl) (by first | exact Or.inl (by rfl) | exact Or.inr (by rfl)) ⋯) (@aC _ _ _ (@jW _ _ _ _ _ _ _ _ (qH fM) (by rfl) (@cP _ K _ _ _ (@bB _ _ _ _ _ _ _ _ _ _ _ c_rows_of ‹12› bK (@aD _ _ _ _ _ _ ‹17› (@aD _ _ _ _ _ _ ‹23› (@aM _ _ _ _ _ _ _ ‹40› (@aB _)))) ⋯ ⋯ ⋯ ⋯) ⋯) (@bW _ _ (4) _ hJ.nd (by rfl) (by first | exact Or.inl (by rfl) | exact Or.inr (by rfl)) ⋯) (@aC _ _ _ (aQ (cB mB_enter T.cl_Book ‹12› bK (pv 2) (aD (pv 4) (aD (pv 3) aB))))) ⋯)) ⋯) (@aC _ _ _ (@bA _ _ _ _ ‹22›)))),?_⟩
  refine⟨_,rfl,dk,df,kvs,D,ns,rfl,hD,ok.keys,ok.nums,ok.few,fun ms perm pw hg p H1 S1 hp g1=>?_,fun ms perm pw hg H1 S1=>(q ms perm pw).1 hg H1 S1⟩
  obtain⟨qn,qs⟩:=(q ms perm pw).2 hg
  refine fun bk dx hbk hdx ndx=>⟨bk,dx,rfl,aE,fun de dp H2 f2 hde hdp hB2=>⟨rfl,?_⟩⟩
  have S12:aF H1 H2:=fun b o e=>by
   have nb:b≠bk:=fun z=>by rw[z,hbk]at e; cases e
   have nd:b≠dx:=fun z=>by rw[z,hdx]at e; cases e
   exact f2 b o (by rw[aG nb,aG nd]; exact e) nb
  have fr:∀ c,upd (upd H1 dx (.own bk)) bk (.ins A.book dx []) c=none->H1 c=none:=fun c e=>by
   cases e2:H1 c with
   | none=>rfl
   | some o=>
    have nb:c≠bk:=fun z=>by rw[z,hbk]at e2; cases e2
    have nd:c≠dx:=fun z=>by rw[z,hdx]at e2; cases e2
    rw[aG nb,aG nd,e2]at e
    cases e
  have hde1:=fr de hde
  have hdp1:=fr dp hdp
  have lm:=perm.length_eq
  have tot0:∀ k,((ms.take k).map (kB D)).sum<=5600:=fun k=>by
   have h1:=(perm.map (kB D)).sum_nat
   rw[<- List.take_append_drop k ms,List.map_append,List.sum_append]at h1
   have:=ok.size
   omega
  refine⟨_,rfl,p,rfl,⟨_,SqL.of (S12 _ _ g1)⟩,?_⟩
  refine fB (cO (K:=K) (SqL.of g1)) (fun i σ H'=>aF H1 H'/\∃ Bi dpi z3 z4,BookAt A.book H' bk de dpi Bi/\H1 dpi=none/\7 * (Bi.es.length+Bi.parts.length)<=((ms.take i).map (kB D)).sum/\oF D (ms.getLastD 0) ms ⟨[],0,[]⟩=oF D (ms.getLastD 0) (ms.drop i) Bi/\σ = [some (.ref dk),some (.ref p),some (.ref bk),z3,z4]) ?i0 (fun i σ H' h=>h.1) ?_ ?_
  case i0=>exact⟨S12,_,dp,none,none,hB2,hdp1,Nat.le_refl _,rfl,rfl⟩
  ·rintro i x σ H5 H6 hi ⟨s5,Bi,dpi,z3,z4,hBi,hdpi,hle,hfo,rfl⟩ s6 hx
   rw[List.getElem?_map]at hx
   cases e:ms[i]? with
   | none=>rw[e]at hx; cases hx
   | some n=>
    rw[e]at hx
    cases hx
    have iL:i<ms.length:=(List.getElem?_eq_some_iff.mp e).1
    have hm:ms≠[]:=fun z=>by rw[z]at iL; simp at iL
    have ed:ms.drop i=n::ms.drop (i+1):=by
     rw[List.drop_eq_getElem_cons iL,(List.getElem?_eq_some_iff.mp e).2]
    have et:ms.take (i+1)=ms.take i++[n]:=by
     rw[List.take_succ,e]
     rfl
    have nin:n∈ns:=perm.mem_iff.mp (List.mem_of_getElem? e)
    obtain⟨bs,hbs⟩:=lC (fs:=D.fs) (n:=aN n) (by rw[ok.keys]; exact List.mem_map_of_mem nin)
    obtain⟨by1,by2⟩:=ok.bytes _ _ hbs
    rw[ed]at hfo
    rw[BF,hbs]at hfo
    dsimp only at hfo
    have S16:aF H1 H6:=s5.trans s6
    have hD6:=hD.same (S1.trans S16)
    have sz:kB D n=bs.length:=by unfold kB; rw[hbs]; rfl
    have tot:=tot0 (i+1)
    rw[et,List.map_append,List.sum_append,List.map_singleton,List.sum_singleton,sz]at tot
    refine⟨_,rfl,_,rfl,_,rfl,1,rfl,p,_,_,.int (ms.getLastD 0),rfl,rfl,SqL.of (S16 _ _ g1),qU hm,dk,df,kvs,D,n,ms.getLastD 0,bs,rfl,hD6,ok.nums n nin,hbs,by1,by2,fun er H7 S7=>?_,fun rs0 k er hrs=>⟨fun hn H7 S7=>?_,fun rs hsome pr H7 S7 hpr d7=>?_⟩⟩
    ·refine qn ?_ H7 (S1.trans (S16.trans S7))
     rw[hfo]
     unfold B6
     rw[er]
    ·refine qn ?_ H7 (S1.trans (S16.trans S7))
     rw[hfo]
     unfold B6
     rw[er]
     dsimp only
     rw[wE,hn]
    have hR:B6 bs (decide (n=ms.getLastD 0))=some rs:=by
     unfold B6
     rw[er]
     dsimp only
     rw[wE]
     exact hsome
    rw[hR]at hfo
    dsimp only at hfo
    have ers:=yP hsome
    have hrs':∀ r∈rs,aZ (cS r)=true:=fun r h=>hrs r (n8 r (by rw[<- ers]; exact h))
    have rl:7 * rs.length<=bs.length:=by
     have h1:=(nR er).2
     rw[List.length_map]at h1
     have h2:=oA rs0
     rw[<- ers]at h2
     omega
    simp only[Den]at d7
    obtain⟨_,xs,e7,g7,dx7⟩:=d7
    cases e7
    have lx:=dx7.length
    rw[List.length_map]at lx
    have S17:aF H1 H7:=S16.trans S7
    have hB7:=hBi.same (s6.trans S7)
    have hB6:=hBi.same s6
    obtain⟨dx6,h16⟩:=hB6.self
    have npb:pr≠bk:=fun z=>by rw[z,h16]at hpr; cases hpr
    have npe:pr≠de:=fun z=>by
     obtain⟨ks,h26,_⟩:=hB6.ent
     rw[z,h26]at hpr
     cases hpr
    have npd:pr≠dpi:=fun z=>by
     obtain⟨ps,h46,_⟩:=hB6.par
     rw[z,h46]at hpr
     cases hpr
    refine⟨pr,rfl,⟨_,SqL.of g7⟩,?_⟩
    refine fB (H0:=fun a=>if a=pr then some (.lst xs) else none) (cO (K:=K) (SqL.of (if_pos rfl))) (fun j σ H'=>H' pr=some (.lst xs)/\gC H7 H'/\aF H1 H'/\∃ Bj dpj z4,BookAt A.book H' bk de dpj Bj/\H1 dpj=none/\pr≠dpj/\Bj.es.length+Bj.parts.length<=Bi.es.length+Bi.parts.length+j/\dF n Bi rs=dF n Bj (rs.drop j)/\σ = [some (.ref dk),some (.ref p),some (.ref bk),some (.int n),z4]) ?j0 ?kp ?_ ?_
    case j0=>exact⟨g7,fun _ _ e=>e,S17,Bi,dpi,_,hB7,hdpi,npd,Nat.le_refl _,rfl,rfl⟩
    case kp=>
     intro j σ H' h b o eb
     by_cases z:b=pr
     ·subst z
      have eb:some (HO.lst xs)=some o:=by simpa using eb
      rw[<- eb]
      exact h.1
     ·have eb:none=some o:=by simpa [z] using eb
      cases eb
    ·rintro j y σ L1 L2 hj ⟨l1,l2,l3,Bj,dpj,z4',hBj,hdpj,nprj,hlej,hfj,rfl⟩ sL hy
     obtain⟨d,hd,dn⟩:=dx7.get hy
     rw[List.getElem?_map]at hd
     cases ej:rs[j]? with
     | none=>rw[ej]at hd; cases hd
     | some r=>
      rw[ej]at hd
      cases (Option.some.inj hd:cS r=d)
      have jL:j<rs.length:=(List.getElem?_eq_some_iff.mp ej).1
      have edj:rs.drop j=r::rs.drop (j+1):=by
       rw[List.drop_eq_getElem_cons jL,(List.getElem?_eq_some_iff.mp ej).2]
      rw[edj]at hfj
      have tu:gC H7 L2:=l2.trans (aF.tup sL)
      obtain⟨t,b,rfl,gt,gb⟩:=nQ dn
      have dn':Den L2 (gN r.1 r.2.1 r.2.2) (.ref t):=Bh tu (qP _ _ _) dn
      have hB2':=hBj.same sL
      obtain⟨dxL,hL⟩:=hB2'.self
      have S1L:aF H1 L2:=l3.trans sL
      have sf:∀ {H8:Hp},Frm bk de dpj L2 H8->aF H1 H8:=fun f8 c o ec=>f8 c o (S1L c o ec) (aY ec hbk) (aY ec hde1) (aY ec hdpj)
      have efold:dF n Bj (r::rs.drop (j+1))=match dG Bj r.1 r.2.1 r.2.2 n with | none=>none | some B'=>dF n B' (rs.drop (j+1)):=rfl
      refine⟨_,rfl,bk,dxL,_,rfl,hL,rfl,_,rfl,_,rfl,bk,de,dpj,t,Bj,r.1,r.2.1,n,r.2.2,rfl,hB2',dn',hrs' r (List.mem_of_getElem? ej),by omega,fun B' hB' dq H8 f8 hdq hB8=>?_,fun hn H8 f8=>?_⟩
      ·refine⟨f8 _ _ (sL _ _ l1) npb npe nprj,tu.trans (hB2'.tup f8),sf f8,B',dq,_,hB8,?_,?_,?_,?_,rfl⟩
       ·rcases hdq with rfl | hdq
        ·exact hdpj
        ·exact S1L.free hdq
       ·rcases hdq with rfl | hdq
        ·exact nprj
        ·exact fun z=>by rw[<- z,sL _ _ l1]at hdq; cases hdq
       ·have:=tP hB'
        omega
       ·rw[hfj,efold,hB']
      ·refine qn ?_ H8 (S1.trans (sf f8))
       rw[hfo,hfj,efold,hn]
    ·rintro σ L1 ⟨l1,l2,l3,Bj,dpj,z4',hBj,hdpj,nprj,hlej,hfj,rfl⟩
     rw[lx,List.drop_of_length_le (Nat.le_refl _)]at hfj
     rw[lx]at hlej
     rw[hfj]at hfo
     refine⟨l3,Bj,dpj,_,_,hBj,hdpj,?_,hfo,rfl⟩
     rw[et,List.map_append,List.sum_append,List.map_singleton,List.sum_singleton,sz]
     omega
  ·rintro σ H5 ⟨s5,B,dpi,z3,z4,hB,hdpi,hle,hfo,rfl⟩
   rw[List.length_map,List.drop_of_length_le (Nat.le_refl _)]at hfo
   rw[List.length_map,List.take_length]at hle
   have tot:=tot0 ms.length
   rw[List.take_length]at tot
   exact⟨_,rfl,qs B hfo (by omega) bk de dpi H5 (S1.trans s5) (S1.free hbk) (S1.free hde1) (S1.free hdpi) hB⟩
end
end Qh
end
section
namespace Qh
open PySem L2
noncomputable abbrev fK:Stmt:=top 42
noncomputable abbrev jT:Stmt:=top 43
noncomputable abbrev jR:Stmt:=top 44
noncomputable def lD:Str:="abcdefghijklmnopqrstuvwxyz"
noncomputable def uZ (d1 d2 d3:PyData):Bool:=bH 1 2000 d1 && (bH 0 99 d2 && bH 1 9 d3)
noncomputable def eY (A:Ad):Sp:=fun vs H Q E=>∃ (v1 v2 v3:V) (d1 d2 d3:PyData),vs=[v1,v2,v3]/\Den H d1 v1/\Den H d2 v2/\Den H d3 v3/\(uZ d1 d2 d3=true->Q .non H)/\(uZ d1 d2 d3=false->E (.ref A.badSettings) none H)
noncomputable def fP (A:Ad):Sp:=fun vs H Q E=>∃ (v:V) (d:PyData),vs=[v]/\Den H d v/\(∀ x,d = .str x->x.length<=1000/\kF x=true)/\(cN lD 6 d=true->∀ H',aF H H'->Q .non H')/\(cN lD 6 d=false->∀ H',aF H H'->E (.ref A.badHand) none H')
noncomputable def iN (A:Ad):Sp:=fun vs H Q E=>∃ (v:V) (d:PyData),vs=[v]/\Den H d v/\(∀ bs,d = .tuple bs->bs.length<=sizeLine)/\(aZ (.tuple [.str "put",.int 0,d])=true->∀ H',aF H H'->Q .non H')/\(aZ (.tuple [.str "put",.int 0,d])=false->∀ H',aF H H'->E (.ref A.badBody) none H')
section
variable {P:Program} {w:World} {K:PySem.W.Frag} {mg:Str->Option Value} {base:Heap} {A:Ad}
theorem nL:FnScope ["most","hold","tries"] ["most","hold","tries"] (aH fK):=‹0›
theorem nW {f:Addr} {fd:FuncData} (F:Fun K "check_settings" "check_settings" fK f fd) (T:TxtQ K mg A) (c_is_number:‹4›):‹7› 2 f fd ["most","hold","tries"] (eY A):=by
 obtain⟨_,hc_LARGEST_MOST⟩:=T.c_LARGEST_MOST
 obtain⟨_,hc_LONGEST_HOLD⟩:=T.c_LONGEST_HOLD
 obtain⟨_,hc_HIGHEST_TRIES⟩:=T.c_HIGHEST_TRIES
 refine F.okX nL (fun vs H Q E h=>?_) (fun cdv A' outer s H vs Q E hr h=>?_)
 ·obtain⟨v1,v2,v3,d1,d2,d3,rfl,_⟩:=h
  rfl
 ·obtain⟨v1,v2,v3,d1,d2,d3,rfl,h1,h2,h3,q,qe⟩:=h
  refine⟨_,@aA _ _ _ _ _ (@a9 _ _ _ _ _ _ _ _ (@cF _ _ _ _ (@cY _ _ _ (@bB _ _ _ _ _ _ _ _ _ _ _ c_is_number ‹12› aW (@aD _ _ _ _ _ _ ‹17› (@aO _ _ _ _ _ _ _ ‹21› (@aD _ _ _ _ _ _ (@bX _ _ (.int 2000) _ _ (by rfl) hc_LARGEST_MOST ⟨_,rfl⟩ ⋯) (@aB _)))) ⋯ ⋯ ⋯ ⋯) ⋯)) ‹35› (@aP _)) (@aA _ _ _ _ _ (@a9 _ _ _ _ _ _ _ _ (@cF _ _ _ _ (@cY _ _ _ (@bB _ _ _ _ _ _ _ _ _ _ _ c_is_number ‹12› aW (@aD _ _ _ _ _ _ ‹18› (@aO _ _ _ _ _ _ _ ‹21› (@aD _ _ _ _ _ _ (@bX _ _ (.int 99) _ _ (by rfl) hc_LONGEST_HOLD ⟨_,rfl⟩ ⋯) (@aB _)))) ⋯ ⋯ ⋯ ⋯) ⋯)) ‹35› (@aP _)) (@aC _ _ _ (@a9 _ _ _ _ _ _ _ _ (@cF _ _ _ _ (@cY _ _ _ (@bB _ _ _ _ _ _ _ _ _ _ _ c_is_number ‹12› aW (@aD _ _ _ _ _ _ ‹22› (@aO _ _ _ _ _ _ _ ‹21› (@aD _ _ _ _ _ _ (@bX _ _ (.int 9) _ _ (by rfl) hc_HIGHEST_TRIES ⟨_,rfl⟩ ⋯) (@aB _)))) ⋯ ⋯ ⋯ ⋯) ⋯)) ‹35› (@aP _)))),?_⟩
  unfold uZ at q qe
  have one:(1:Nat)<=sizeLine:=by decide
  refine⟨_,rfl,v1,d1,1,2000,rfl,h1,_,rfl,?_⟩
  cases e1:bH 1 2000 d1 with
  | false=>
   rw[e1]at qe
   exact aT ⟨one,qe rfl⟩
  | true=>
  rw[e1]at q qe
  refine aV (bE rfl ?_)
  refine⟨_,rfl,v2,d2,0,99,rfl,h2,_,rfl,?_⟩
  cases e2:bH 0 99 d2 with
  | false=>
   rw[e2]at qe
   exact aT ⟨one,qe rfl⟩
  | true=>
  rw[e2]at q qe
  refine aV (bE rfl ?_)
  refine⟨_,rfl,v3,d3,1,9,rfl,h3,_,rfl,?_⟩
  cases e3:bH 1 9 d3 with
  | false=>
   rw[e3]at qe
   exact aT ⟨one,qe rfl⟩
  | true=>
  rw[e3]at q
  exact aV (q rfl)
theorem uC:FnScope ["hand"] ["hand"] (aH jR):=‹0›
theorem uM {f:Addr} {fd:FuncData} (F:Fun K "check_hand" "check_hand" jR f fd) (T:TxtQ K mg A) (c_is_word:‹8› "is_word" 1 ["thing","signs","longest"] jH):‹7› 2 f fd ["hand"] (fP A):=by
 obtain⟨_,hc_HAND_SIGNS⟩:=T.c_HAND_SIGNS
 obtain⟨_,hc_LONGEST_HAND⟩:=T.c_LONGEST_HAND
 refine F.okX uC (fun vs H Q E h=>?_) (fun cdv A' outer s H vs Q E hr h=>?_)
 ·obtain⟨v,d,rfl,_⟩:=h
  rfl
 ·obtain⟨v,d,rfl,hd,hz,q,qe⟩:=h
  refine⟨_,@aC _ _ _ (@a9 _ _ _ _ _ _ _ _ (@cF _ _ _ _ (@cY _ _ _ (@bB _ _ _ _ _ _ _ _ _ _ _ c_is_word ‹12› aW (@aD _ _ _ _ _ _ ‹17› (@aD _ _ _ _ _ _ (@bX _ _ (.str "abcdefghijklmnopqrstuvwxyz") _ _ (by rfl) hc_HAND_SIGNS ⟨_,rfl⟩ ⋯) (@aD _ _ _ _ _ _ (@bX _ _ (.int 6) _ _ (by rfl) hc_LONGEST_HAND ⟨_,rfl⟩ ⋯) (@aB _)))) ⋯ ⋯ ⋯ ⋯) ⋯)) (@aC _ _ _ (@dC _ _ _ _ _ _ _ _ _ _ eJ (by rfl) T.x_BadHand (by rfl) T.m_BadHand ‹20› ⋯ ⋯ ⋯)) (@aP _)),?_⟩
  refine⟨_,rfl,v,d,lD,6,rfl,hd,hz,fun H1 S1=>⟨_,rfl,?_⟩⟩
  cases hb:cN lD 6 d with
  | false=>exact aT ⟨(by show 1<=sizeLine; decide),qe hb H1 S1⟩
  | true=>exact aV (q hb H1 S1)
theorem uD:FnScope ["body"] ["body"] (aH jT):=‹0›
theorem uO {f:Addr} {fd:FuncData} (F:Fun K "check_body" "check_body" jT f fd) (T:TxtQ K mg A) (c_is_row:‹8› "is_row" 3 ["thing"] iV):‹7› 4 f fd ["body"] (iN A):=by
 refine F.okX uD (fun vs H Q E h=>?_) (fun cdv A' outer s H vs Q E hr h=>?_)
 ·obtain⟨v,d,rfl,_⟩:=h
  rfl
 ·obtain⟨v,d,rfl,hd,hz,q,qe⟩:=h
  refine⟨_,@aC _ _ _ (@a9 _ _ _ _ _ _ _ _ (@cF _ _ _ _ (@cY _ _ _ (@bB _ _ _ _ _ _ _ _ _ _ _ c_is_row ‹12› aW (@dE _ _ _ _ _ _ _ (@cG _ _ _ _ _ (@aO _ _ _ _ _ _ _ (@dW _ _ _ _) (@aO _ _ _ _ _ _ _ ‹21› ‹33›))) (@aB _)) ⋯ ⋯ ⋯ ⋯) ⋯)) (@aC _ _ _ (@dC _ _ _ _ _ _ _ _ _ _ eJ (by rfl) T.x_BadBody (by rfl) T.m_BadBody ‹20› ⋯ ⋯ ⋯)) (@aP _)),?_⟩
  refine⟨_,rfl,cC,fun p hp=>?_⟩
  have S:=aJ (o:=.tup [.str "put",.int 0,v]) hp
  refine⟨.ref p,.tuple [.str "put",.int 0,d],rfl,?_,fun k n bs e=>?_,fun H1 S1=>⟨_,rfl,?_⟩⟩
  ·simp only[Den,aU]
   exact⟨p,_,rfl,aE,_,_,rfl,rfl,_,_,rfl,rfl,_,_,rfl,hd.same S,rfl⟩
  ·injection e with e
   injection e with _ e
   injection e with _ e
   injection e with e _
   exact hz bs e
  cases hb:aZ (.tuple [.str "put",.int 0,d]) with
  | false=>exact aT ⟨(by show 1<=sizeLine; decide),qe hb H1 (S.trans S1)⟩
  | true=>exact aV (q hb H1 (S.trans S1))
end
end Qh
end
section
namespace Qh
open PySem L2
noncomputable abbrev kR:Stmt:=top 51
noncomputable def mkN (D:Dk) (n:Str):Dk:=⟨D.fs++[(n,[])],D.done+1,none⟩
noncomputable def zR (D:Dk) (n:Str):Dk:=⟨fH D.fs n,D.done+1,none⟩
noncomputable def kM (D:Dk) (n:Str) (bs:List Int) (k:Nat):Dk:=⟨cX D.fs n bs,D.done+(k:Int),none⟩
theorem fI {D:Dk} (h:D.left=none):fW D=some ⟨D.fs,D.done+1,none⟩:=by
 unfold fW
 rw[h]
theorem C8 (fs:List (Str × List Int)) (n:Str) (a b:List Int):cX (cX fs n a) n b=cX fs n b:=by
 unfold cX
 rw[List.map_map]
 apply List.map_congr_left
 intro p _
 by_cases z:p.1=n
 ·simp [z]
 ·simp [z]
theorem u4 {n:Str} {bs:List Int}:∀ {fs:List (Str × List Int)},(fs.map (·.1)).Nodup->aI fs n=some bs->cX fs n bs=fs
 | [],_,_=>rfl
 | p::fs,hn,h=>by
  rw[List.map_cons,List.nodup_cons]at hn
  show (if p.1=n then (p.1,bs) else p)::cX fs n bs=_
  by_cases z:p.1=n
  ·have e:aI (p::fs) n=some p.2:=by simp [aI,z]
   rw[e]at h
   cases h
   rw[if_pos z,BO (fun m=>hn.1 (by rw[z]; exact m))]
  ·have e:aI (p::fs) n=aI fs n:=by simp [aI,z]
   rw[e]at h
   rw[if_neg z,u4 hn.2 h]
theorem wA {n:Str}:∀ {ns:List Int} {D:Dk} {bs:List Int},D.left=none->(D.fs.map (·.1)).Nodup->aI D.fs n=some bs->qL n D ns=(kM D n (bs++ns) ns.length,true)
 | [],D,bs,hl,hk,hb=>by
  obtain⟨fs,done,left⟩:=D
  have hl:left=none:=hl
  subst hl
  show ((⟨fs,done,none⟩:Dk),true)=(⟨cX fs n (bs++[]),done+((0:Nat):Int),none⟩,true)
  rw[List.append_nil,u4 hk hb]
  simp
 | b::ns,D,bs,hl,hk,hb=>by
  show (match fW D with | none=>(D,false) | some D1=>qL n ⟨cX D1.fs n ((aI D1.fs n).getD []++[b]),D1.done,D1.left⟩ ns)=_
  rw[fI hl]
  dsimp only
  rw[hb,wA (bs:=bs++[b]) rfl (by rw[iX]; exact hk) (oU hb)]
  unfold kM
  dsimp only
  rw[Option.getD_some,C8,List.append_assoc,List.length_cons]
  have:D.done+1+(ns.length:Int)=D.done+((ns.length+1:Nat):Int):=by omega
  rw[this]
  rfl
theorem eV.trans {dk df:Addr} {k1 k2:List (Key × V)} {H H1 H2:Hp} (f1:eV dk df k1 H H1) (g1:kA dk df k1 k2 H) (f2:eV dk df k2 H1 H2):eV dk df k1 H H2:=fun b o e nb=>
 f2 b o (f1 b o e nb) (fun z=>(g1 b z).elim nb (fun y=>by rw[y]at e; cases e))
theorem kA.trans {dk df:Addr} {k1 k2 k3:List (Key × V)} {H H1:Hp} (f1:eV dk df k1 H H1) (g1:kA dk df k1 k2 H) (g2:kA dk df k2 k3 H1):kA dk df k1 k3 H:=fun b hb=>by
 rcases g2 b hb with z | z
 ·exact g1 b z
 ·by_cases y:own dk df k1 b
  ·exact .inl y
  ·refine .inr ?_
   cases e:H b with
   | none=>rfl
   | some o=>rw[f1 b o e y]at z; cases z
theorem j3 {C dk df:Addr} {H:Hp} {kvs:List (Key × V)} {D:Dk} (h:DiskAt C H dk df kvs D) {b:Addr} (hb:own dk df kvs b):∃ o,H b=some o:=by
 rcases hb with rfl | rfl | hb
 ·obtain⟨dx,h1⟩:=h.self
  exact⟨_,h1⟩
 ·exact⟨_,h.files⟩
 ·obtain⟨xs,e⟩:=n6 h.rel hb
  exact⟨_,e⟩
theorem nX (fs:List (Str × List Int)) (n m:Str) (e:List Int) (h:aI fs n=none):aI (fs++[(n,e)]) m=if m=n then some e else aI fs m:=by
 unfold aI at h ⊢
 rw[Option.map_eq_none_iff,List.find?_eq_none]at h
 rw[List.find?_append]
 by_cases z:m=n
 ·subst z
  have:fs.find? (fun p=>decide (p.1=m))=none:=List.find?_eq_none.mpr h
  rw[this,if_pos rfl]
  simp
 ·rw[if_neg z]
  have z':¬ n=m:=fun y=>z y.symm
  cases fs.find? (fun p=>decide (p.1=m)) with
  | none=>simp [z']
  | some p=>simp
theorem sX (fs:List (Str × List Int)) (n m:Str) (e:List Int):aI (cX fs n e) m=if m=n then (aI fs n).map (fun _=>e) else aI fs m:=by
 unfold aI cX
 induction fs with
 | nil=>split <;> rfl
 | cons p fs ih=>
  rw[List.map_cons,List.find?_cons,List.find?_cons,List.find?_cons]
  by_cases z:m=n
  ·subst z
   rw[if_pos rfl]at ih ⊢
   by_cases y:p.1=m
   ·simp [y]
   ·simp only[y,if_false,decide_false]
    exact ih
  ·rw[if_neg z]at ih ⊢
   by_cases y:p.1=n
   ·have:¬ p.1=m:=fun x=>z (x.symm.trans y)
    simp only[y,if_true]
    rw[decide_eq_false (fun x:n=m=>z x.symm)]
    exact ih
   ·simp only[y,if_false]
    by_cases x:p.1=m
    ·simp [x]
    ·simp only[x,decide_false]
     exact ih
theorem Bb {n:Int} (h0:0<=n) (h1:n<=999999):aZ (cS ("from",n,[]))=true:=by
 show (cD.contains "from" && (bH 0 999999 (.int n) && (cI (.tuple []) && gG "from" (bD (.tuple [])))))=true
 have:bH 0 999999 (.int n)=true:=by
  simp only[bH,Bool.and_eq_true,decide_eq_true_eq]
  exact⟨h0,h1⟩
 rw[this]
 decide +kernel
theorem eA {σ : St} {H:Hp} {k:List V->Hp->Prop} (h:k [] H):eQ σ H k:=h
section
variable {C c1 c2 c3 c4 dk df:Addr} {kvs:List (Key × V)} {D:Dk} {n:Int} {H:Hp} {Q:V->Hp->Prop} {E:XK} {bs:List Int}
theorem yM (hD:DiskAt C H dk df kvs D) (hl:D.left=none) (hn:cR n) (hf:D.fs.length<1000) (hno:aI D.fs (aN n)=none) (q:∀ kvs' H',eV dk df kvs H H'->kA dk df kvs kvs' H->DiskAt C H' dk df kvs' (mkN D (aN n))->Q .non H'):nG C c1 c2 c3 [.ref dk,.str (aN n)] H Q E:=by
 refine⟨dk,df,kvs,D,_,.str (aN n),rfl,hD,by simp only[Den],mL hn,hf,(fun z=>by rw[hG hn]at z; cases z),fun n' e _=>?_⟩
 injection e with e
 subst e
 refine⟨(fun bs z=>by rw[hno]at z; cases z),fun _=>⟨(fun z=>by rw[fI hl]at z; cases z),fun D1 hs kvs' H' f g h=>?_⟩⟩
 rw[fI hl]at hs
 cases hs
 exact q _ _ f g h
theorem yN (hD:DiskAt C H dk df kvs D) (hl:D.left=none) (hn:cR n) (hb:aI D.fs (aN n)=some bs) (q:∀ kvs' H',eV dk df kvs H H'->kA dk df kvs kvs' H->DiskAt C H' dk df kvs' (zR D (aN n))->Q .non H'):nJ C c1 c2 c3 [.ref dk,.str (aN n)] H Q E:=by
 refine⟨dk,df,kvs,D,_,.str (aN n),rfl,hD,by simp only[Den],mL hn,(fun z=>by rw[hG hn]at z; cases z),fun n' e _=>?_⟩
 injection e with e
 subst e
 refine⟨(fun z=>by rw[hb]at z; cases z),fun bs' z=>⟨(fun z=>by rw[fI hl]at z; cases z),fun D1 hs kvs' H' f g h=>?_⟩⟩
 rw[fI hl]at hs
 cases hs
 exact q _ _ f g h
theorem En {k:Nat} (hD:DiskAt C H dk df kvs D) (hl:D.left=none) (hn:cR n) (hf:D.fs.length<1000) (hb:aI D.fs (aN n)=some bs) (hk:k<=bs.length) (q:∀ kvs' H',eV dk df kvs H H'->kA dk df kvs kvs' H->DiskAt C H' dk df kvs' (kM D (aN n) (bs.take k) 1)->Q .non H'):wK C c1 c2 c3 c4 [.ref dk,.str (aN n),.int (k:Int)] H Q E:=by
 refine⟨dk,df,kvs,D,_,_,.str (aN n),.int (k:Int),rfl,hD,by simp only[Den],mL hn,by simp only[Den],hf,(fun z=>by rw[hG hn]at z; cases z),fun n' e _=>?_⟩
 injection e with e
 subst e
 refine⟨(fun z=>by rw[hb]at z; cases z),fun bs' z=>?_⟩
 rw[hb]at z
 cases z
 have hi:bH 0 bs.length (.int (k:Int))=true:=by
  simp only[bH,Bool.and_eq_true,decide_eq_true_eq]
  omega
 refine⟨(fun z=>by rw[hi]at z; cases z),fun _=>⟨(fun z=>by rw[fI hl]at z; cases z),fun D1 hs kvs' H' f g h=>?_⟩⟩
 rw[fI hl]at hs
 cases hs
 exact q _ _ f g h
theorem wD {a:Addr} {ns:List Int} (hD:DiskAt C H dk df kvs D) (hl:D.left=none) (hn:cR n) (hb:aI D.fs (aN n)=some bs) (hz:∀ n bs,aI D.fs n=some bs->bs.length<=100000) (ha:H a=some (.tup (ns.map V.int))) (hby:∀ b∈ns,0<=b/\b<=255) (hln:ns.length<=100000) (q:∀ H',eV dk df kvs H H'->DiskAt C H' dk df kvs (kM D (aN n) (bs++ns) ns.length)->Q .non H'):oR C c1 c2 c3 c4 [.ref dk,.str (aN n),.ref a] H Q E:=by
 refine⟨dk,df,kvs,D,_,_,.str (aN n),.tuple (ns.map .int),rfl,hD,by simp only[Den],mL hn,by simp only[Den]; exact⟨a,_,rfl,ha,bR.mpr rfl⟩,(fun ds e=>by injection e with e; rw[<- e,List.length_map]; exact hln),hz,(fun z=>by rw[hG hn]at z; cases z),fun n' e _=>?_⟩
 injection e with e
 subst e
 refine⟨(fun z=>by rw[hb]at z; cases z),fun bs' z=>?_⟩
 rw[hb]at z
 cases z
 have hi:cI (.tuple (ns.map .int))=true:=qZ hby
 refine⟨(fun z=>by rw[hi]at z; cases z),fun _ H' f h=>?_⟩
 rw[eN,wA hl hD.kn hb]at h ⊢
 exact⟨fun _=>q H' f h,(fun z=>by cases z)⟩
theorem rD (hD:DiskAt C H dk df kvs D) (hn:cR n) (hb:aI D.fs (aN n)=some bs) (q:∀ H',aF H H'->Q (.int (bs.length:Int)) H'):lN C c1 c2 [.ref dk,.str (aN n)] H Q E:=by
 refine⟨dk,df,kvs,D,_,.str (aN n),rfl,hD,by simp only[Den],mL hn,(fun z=>by rw[hG hn]at z; cases z),fun n' e _=>?_⟩
 injection e with e
 subst e
 refine⟨(fun z=>by rw[hb]at z; cases z),fun bs' z=>?_⟩
 rw[hb]at z
 cases z
 exact q
theorem Cz (hD:DiskAt C H dk df kvs D) (hn:cR n) (hb:aI D.fs (aN n)=some bs) (q:∀ p H',aF H H'->H' p=some (.tup (bs.map V.int))->Q (.ref p) H'):nF C c1 c2 [.ref dk,.str (aN n)] H Q E:=by
 refine⟨dk,df,kvs,D,_,.str (aN n),rfl,hD,by simp only[Den],mL hn,(fun z=>by rw[hG hn]at z; cases z),fun n' e _=>?_⟩
 injection e with e
 subst e
 refine⟨(fun z=>by rw[hb]at z; cases z),fun bs' z=>?_⟩
 rw[hb]at z
 cases z
 exact q
theorem Cy {a:Addr} {rs:List Rw} {k:Nat} (ha:H a=some (.tup (bs.map V.int))) (hby:∀ b∈bs,0<=b/\b<=255) (hln:bs.length<=100000) (hr:dN (bs.length+1) bs=some (rs.map cS,k)) (q:∀ p pL H',aF H H'->H' p=some (.tup [.ref pL,.int (k:Int)])->Den H' (.list (rs.map cS)) (.ref pL)->Q (.ref p) H'):gX c1 c2 [.ref a] H Q E:=by
 have isb:cI (.tuple (bs.map .int))=true:=qZ hby
 refine⟨.ref a,.tuple (bs.map .int),rfl,by simp only[Den]; exact⟨a,_,rfl,ha,bR.mpr rfl⟩,(fun bs' e=>?_),(fun z=>by rw[isb]at z; cases z),fun _=>?_⟩
 ·injection e with e
  rw[<- e,List.length_map]
  exact Nat.le_trans hln (by decide)
 rw[eN]
 refine⟨fun ds k' er p2 H2 S2 d2=>?_,(fun z=>by rw[hr]at z; cases z)⟩
 rw[hr]at er
 cases er
 have d2':=d2
 simp only[Den,aU]at d2'
 obtain⟨_,_,e1,gf,_,_,rfl,⟨pL,ys,rfl,gL,dL⟩,_,_,rfl,rfl,rfl⟩:=d2'
 cases e1
 exact q p2 pL H2 S2 gf (by simp only[Den]; exact⟨pL,ys,rfl,gL,dL⟩)
theorem u9 {r:Rw} (h:aZ (cS r)=true):cD.contains r.1=true/\0<=r.2.1/\r.2.1<=999999/\fV r.2.2/\gG r.1 r.2.2=true:=by
 obtain⟨k,n,bs,e,hk,h0,h1,hb,hf⟩:=mY h
 unfold cS gN at e
 injection e with e
 injection e with e1 e
 injection e with e2 e
 injection e with e3 e
 injection e1 with e1
 injection e2 with e2
 injection e3 with e3
 have hb':fV (bD (.tuple bs)):=nC hb
 rw[<- e3,eN]at hf hb'
 rw[e1,e2]
 exact⟨hk,h0,h1,hb',by rw[<- e1]at hf ⊢; exact hf⟩
theorem pG {r:Rw} (h:aZ (cS r)=true):r.2.2.length<=61:=tN (u9 h).2.2.2.2
theorem jU {r:Rw} (h:aZ (cS r)=true):∀ b∈iR r.1 r.2.1 r.2.2,0<=b/\b<=255:=by
 obtain⟨hk,h0,h1,hb,hf⟩:=u9 h
 have hl:=tN hf
 have hm:r.1∈cD:=by simpa using hk
 have hi:=List.idxOf_lt_length_of_mem hm
 have hi:cD.idxOf r.1<8:=hi
 intro b hm
 unfold iR fG fF at hm
 simp only[List.mem_append,List.mem_cons,List.not_mem_nil,or_false]at hm
 rcases hm with (z | z) | (((z | z | z | z) | z) | z)
 ·omega
 ·omega
 ·omega
 ·omega
 ·omega
 ·omega
 ·omega
 ·exact hb b z
theorem E2 (r:Rw):DE (cS r)=iR r.1 r.2.1 r.2.2:=by
 show iR r.1 r.2.1 (bD (.tuple (r.2.2.map .int)))=_
 rw[eN]
theorem wC {r:Rw} {v:V} (hd:Den H (cS r) v) (hr:aZ (cS r)=true) (q:∀ p H',aF H H'->H' p=some (.tup ((iR r.1 r.2.1 r.2.2).map V.int))->Q (.ref p) H'):eF c1 [v] H Q E:=by
 refine⟨v,cS r,rfl,hd,fun k n bs e=>?_,fun _ p H' S g=>q p H' S (by rw[<- E2]; exact g),(fun z=>by rw[hr]at z; cases z)⟩
 have hs:=pG hr
 unfold cS gN at e
 injection e with e
 injection e with e1 e
 injection e with e2 e
 injection e with e3 e
 injection e3 with e3
 rw[<- e3,List.length_map]
 exact Nat.le_trans hs (by decide)
end
end Qh
end
section
namespace Qh
open PySem L2
noncomputable def hX (bs:List Int):List Rw:=match dN (bs.length+1) bs with
 | none=>[]
 | some r=>bJ (r.1.map uU)
noncomputable def b8 (rs:List Rw):Nat:=(rs.map fun r=>7+r.2.2.length).sum
noncomputable def tI (D:Dk) (ms:List Int):Dk × List Int:=
 if hX ((aI D.fs (aN (ms.getLastD 0))).getD [])=[]/\1<ms.length then (zR D (aN (ms.getLastD 0)),ms.dropLast)
 else
  let bs:=(aI D.fs (aN (ms.getLastD 0))).getD []
  let D2:=if b8 (hX bs)<bs.length then kM D (aN (ms.getLastD 0)) (bs.take (b8 (hX bs))) 1 else D
  if hX bs=[] then (kM D2 (aN (ms.getLastD 0)) (iR "from" 0 []) 7,ms) else (D2,ms)
noncomputable def bL (D:Dk) (ms:List Int):Dk × List Int:=if ms=[] then tI (mkN D (aN 0)) [0] else tI D ms
noncomputable def gI (A:Ad):Sp:=fun vs H Q _=>∃ (dk df:Addr) (kvs:List (Key × V)) (D:Dk) (ns:List Int),vs=[.ref dk]/\DiskAt A.disk H dk df kvs D/\D.left=none/\DiskOk D ns/\∀ ms,List.Perm ms ns->ms.Pairwise (· <= ·)->iH ms/\(∀ bs,aI D.fs (aN (ms.getLastD 0))=some bs->dN (bs.length+1) bs≠none)/\
 ∀ kvs' H',eV dk df kvs H H'->kA dk df kvs kvs' H->DiskAt A.disk H' dk df kvs' (bL D ms).1->∀ p,H' p=some (.lst ((bL D ms).2.map V.int))->¬ own dk df kvs' p->Q (.ref p) H'
theorem xZ {i:Nat} {x:V} {s tl:TS} {D:Ends} {σ : St} {H:Hp} (J:St->Hp->Prop) (h2:∀ n:St->Hp->Prop,(∀ σ' H',J σ' H'->n σ' H')->s { D with nx:=n } (σ.set i (some x)) H) (h1:∀ σ' H',J σ' H'->tl D σ' H'):vQ i x σ H (By s tl D):=h2 _ h1
theorem C9 {s tl:TS} {D:Ends} {σ : St} {H:Hp} (J:St->Hp->Prop) (h2:∀ n:St->Hp->Prop,(∀ σ' H',J σ' H'->n σ' H')->s { D with nx:=n } σ H) (h1:∀ σ' H',J σ' H'->tl D σ' H'):By s tl D σ H:=h2 _ h1
theorem EQ {xs:List V} (h:xs≠[]):fN xs none (some (-1))=xs.dropLast:=by
 have hl:0<xs.length:=List.length_pos_iff.mpr h
 unfold fN
 have e:HT.sIx xs.length xs.length (some (-1))=xs.length - 1:=by
  unfold HT.sIx
  simp
  omega
 rw[HT.nP,e,List.drop_zero,Nat.sub_zero,List.dropLast_eq_take]
section
variable {P:Program} {w:World} {K:PySem.W.Frag} {mg:Str->Option Value} {base:Heap} {A:Ad}
theorem eI:FnScope ["disk","segments","name","rows","size"] ["disk"] (aH kR):=‹0›
set_option maxHeartbeats 2000000 in
theorem xK {f:Addr} {fd:FuncData} (F:Fun K "make_good" "make_good" kR f fd) (T:TxtQ K mg A) (c_segment_name:‹2›) (c_segments_on:‹8› "segments_on" 3 ["disk"] (dY A)) (c_rows_in:‹8› "rows_in" 5 ["some"] (gX A.badRow A.broken)) (c_without_last_parts:‹8› "without_last_parts" 1 ["rows"] jE) (c_row_bytes:‹8› "row_bytes" 4 ["row"] (eF A.badRow))
  (mD_read:‹9› A.disk "read" 4 ["self","name"] (nF A.disk A.badName A.missing)) (mD_size:‹9› A.disk "size" 4 ["self","name"] (lN A.disk A.badName A.missing)) (mD_make:‹9› A.disk "make" 3 ["self","name"] (nG A.disk A.badName A.there A.stopped)) (mD_drop:‹9› A.disk "drop" 4 ["self","name"] (nJ A.disk A.badName A.missing A.stopped)) (mD_cut:‹9› A.disk "cut" 4 ["self","name","size"] (wK A.disk A.badName A.missing A.badNumber A.stopped)) (mD_add:‹9› A.disk "add" 4 ["self","name","some"] (oR A.disk A.badName A.missing A.badRow A.stopped)):‹7› 6 f fd ["disk"] (gI A):=by
 refine F.okX eI (fun vs H Q E h=>?_) (fun cdv A' outer s H vs Q E hr h=>?_)
 ·obtain⟨dk,df,kvs,D,ns,rfl,_⟩:=h
  rfl
 ·obtain⟨dk,df,kvs,D,ns,rfl,hD,hl,ok,q⟩:=h
  refine⟨_,@aA _ _ _ _ _ (@a8 _ _ (1) _ _ _ _ eI.nd (by rfl) (by first | exact Or.inl (by rfl) | exact Or.inr (by rfl)) (@bB _ _ _ _ _ _ _ _ _ _ _ c_segments_on ‹12› bK ‹33› ⋯ ⋯ ⋯ ⋯) ⋯ ⋯) (@aA _ _ _ _ _ (@a9 _ _ _ _ _ _ _ _ (@cF _ _ _ _ (@e8 _ K _ _ ‹18› ⋯ ⋯)) (@aA _ _ _ _ _ (aQ (cB mD_make T.cl_Disk ‹12› bK (pv 0) (cJ (bB c_segment_name ‹12› aW (aO jY aB)) aB))) (@aC _ _ _ (@a8 _ _ (1) _ _ _ _ eI.nd (by rfl) (by first | exact Or.inl (by rfl) | exact Or.inr (by rfl)) (@iS _ _ _ _ ‹39›) ⋯ ⋯))) (@aP _)) (@aA _ _ _ _ _ (@a8 _ _ (2) _ _ _ _ eI.nd (by rfl) (by first | exact Or.inl (by rfl) | exact Or.inr (by rfl)) (@bB _ _ _ _ _ _ _ _ _ _ _ c_segment_name ‹12› aW (@aM _ _ _ _ _ _ _ ‹40› (@aB _)) ⋯ ⋯ ⋯ ⋯) ⋯ ⋯) (@aA _ _ _ _ _ (@a8 _ _ (3) _ _ _ _ eI.nd (by rfl) (by first | exact Or.inl (by rfl) | exact Or.inr (by rfl)) (@bB _ _ _ _ _ _ _ _ _ _ _ c_without_last_parts ‹12› aW (@aM _ _ _ _ _ _ _ (@c8 _ _ _ _ _ _ _ (cQ K) (@bB _ _ _ _ _ _ _ _ _ _ _ c_rows_in ‹12› bK (@cJ _ _ _ _ _ _ _ _ (@cB _ _ _ _ _ _ _ _ _ _ _ _ _ _ _ mD_read T.cl_Disk ‹12› bK ‹17› ‹41› ⋯ ⋯ ⋯) (@aB _)) ⋯ ⋯ ⋯ ⋯) ‹21› (fun _ _=>rfl)) (@aB _)) ⋯ ⋯ ⋯ ⋯) ⋯ ⋯) (@aA _ _ _ _ _ (@a9 _ _ _ _ _ _ _ _ (@PW.pt _ _ _ (@jV _ _ _ _ _ _ _ (@cF _ _ _ _ (@e8 _ K _ _ ‹23› ⋯ ⋯)) (@gO _ _ _ _ (@aS _ _ _ _ _ _ _ _ vF ‹31› ‹21› (aX _))))) (@aA _ _ _ _ _ (aQ (cB mD_drop T.cl_Disk ‹12› bK (pv 0) (aD (pv 2) aB))) (@aC _ _ _ (@bA _ _ _ _ (@e9 _ _ _ _ _ _ _ _ _ _ (rM K) ‹18› (@iG _) (@fR _ _ _ (@DY _ _ _ _ _ _ AH ‹21›)))))) (@aP _)) (@aA _ _ _ _ _ (@a8 _ _ (4) _ _ _ _ eI.nd (by rfl) (by first | exact Or.inl (by rfl) | exact Or.inr (by rfl)) (@bC _ _ _ _ _ _ _ _ _ (lZ K) (by rfl) T.n_sum yG (@f9 _ _ _ _ _ _ _ _ (@eP _ _ _ _ _ _ _ _ _ _ _ ["row"] [] (by rfl) (@cP _ K _ _ _ ‹23› ⋯) (fun C s2 H2 ex=>(@bW _ _ (0) _ (show List.Nodup (["row"]:List Str) by decide +kernel) (by rfl) (Or.inl (by rfl)) ⋯)) ‹26› (fun C s2 H2 ex=>(@bC _ _ _ _ _ _ _ _ _ (dR K) (by rfl) T.n_len iC (@cJ _ _ _ _ _ _ _ _ (@bB _ _ _ _ _ _ _ _ _ _ _ c_row_bytes ‹12› aW ‹33› ⋯ ⋯ ⋯ ⋯) (@aB _)) ⋯ ⋯ ⋯ ⋯)) ⋯ ⋯ ⋯ ⋯) (@aB _)) ⋯ ⋯ ⋯ ⋯) ⋯ ⋯) (@aA _ _ _ _ _ (@a9 _ _ _ _ _ _ _ _ (@aS _ _ _ _ _ _ _ _ vE ‹25› (@cB _ _ _ _ _ _ _ _ _ _ _ _ _ _ _ mD_size T.cl_Disk ‹12› bK ‹17› ‹41› ⋯ ⋯ ⋯) (aX _)) (@aC _ _ _ (aQ (cB mD_cut T.cl_Disk ‹12› bK (pv 0) (aD (pv 2) (aD (pv 4) aB))))) (@aP _)) (@aA _ _ _ _ _ (@a9 _ _ _ _ _ _ _ _ (@cF _ _ _ _ (@e8 _ K _ _ ‹23› ⋯ ⋯)) (@aC _ _ _ (aQ (cB mD_add T.cl_Disk ‹12› bK (pv 0) (aD (pv 2) (cJ (bB c_row_bytes ‹12› bK (dE (cG (aO dW (aO jY (dE (cG aB) aB)))) aB)) aB))))) (@aP _)) (@aC _ _ _ (@bA _ _ _ _ ‹18›))))))))),?_⟩
  refine⟨_,rfl,dk,df,kvs,D,ns,rfl,hD,ok.keys,ok.nums,ok.few,fun ms perm pw hg p H1 S1 hp g1=>?_,fun ms perm pw hg=>absurd (q ms perm pw).1 hg⟩
  obtain⟨_,hread,qs⟩:=q ms perm pw
  clear q
  have lm:=perm.length_eq
  have hn0:ms=[]->D.fs=[]:=fun e=>by
   rw[e]at perm
   have:ns=[]:=perm.symm.eq_nil
   have k:=ok.keys
   rw[this]at k
   exact List.map_eq_nil_iff.mp k
  have fl:D.fs.length<900:=by
   have:=congrArg List.length ok.keys
   rw[List.length_map,List.length_map]at this
   have:=ok.few
   omega
  have hD1:=hD.same S1
  have np:¬ own dk df kvs p:=fun z=>by
   obtain⟨o,e⟩:=j3 hD z
   rw[hp]at e
   cases e
  dsimp only
  refine xZ (fun σ' H'=>∃ kvs1 D1 ms1 p1 bs,σ'=[some (.ref dk),some (.ref p1),none,none,none]/\eV dk df kvs H H'/\kA dk df kvs kvs1 H/\DiskAt A.disk H' dk df kvs1 D1/\D1.left=none/\ms1≠[]/\cR (ms1.getLastD 0)/\aI D1.fs (aN (ms1.getLastD 0))=some bs/\(∀ n bs,aI D1.fs n=some bs->(∀ b∈bs,0<=b/\b<=255)/\bs.length<=100000)/\dN (bs.length+1) bs≠none/\D1.fs.length<1000/\H' p1=some (.lst (ms1.map V.int))/\¬ own dk df kvs1 p1/\bL D ms=tI D1 ms1) (fun n hn=>?_) ?_
  ·refine⟨_,rfl,p,_,rfl,SqL.of g1,?_⟩
   dsimp only
   by_cases hm:ms=[]
   ·have hfs:=hn0 hm
    subst hm
    refine aT ?_
    obtain⟨dx1,h11⟩:=hD1.self
    have hno:aI D.fs (aN 0)=none:=by rw[hfs]; rfl
    refine⟨_,rfl,dk,dx1,_,rfl,h11,rfl,0,rfl,⟨by decide,by decide⟩,eA (yM hD1 hl ⟨by decide,by decide⟩ (by omega) hno fun kvs' H2 f2 w2 hD2=>?_)⟩
    refine⟨cC,fun p2 hp2=>?_⟩
    have S2:=aJ (o:=.lst [.int 0]) hp2
    have g2:upd H2 p2 (.lst [.int 0]) p2=some (.lst [.int 0]):=aE
    generalize upd H2 p2 (.lst [.int 0])=H3 at S2 g2 ⊢
    have f02:eV dk df kvs H H2:=eV.trans (fun b o e _=>S1 b o e) (fun b h=>.inl h) f2
    have hmk:(mkN D (aN 0)).fs=[(aN 0,[])]:=by
     show D.fs++[(aN 0,[])]=_
     rw[hfs]
     rfl
    refine hn _ _ ⟨kvs',mkN D (aN 0),[0],p2,[],rfl,fun b o e nb=>S2 _ _ (f02 b o e nb),kA.trans (fun b o e _=>S1 b o e) (fun b h=>.inl h) w2,hD2.same S2,rfl,by simp,⟨by decide,by decide⟩,?_,fun n bs e=>?_,?_,?_,g2,?_,?_⟩
    ·rw[hmk]
     simp [aI]
    ·rw[hmk]at e
     have:bs=[]:=by
      unfold aI at e
      rw[List.find?_cons]at e
      split at e
      ·cases e
       rfl
      ·cases e
     rw[this]
     exact⟨(fun b hb=>by cases hb),by decide⟩
    ·intro z
     rw[mV]at z
     cases z
    ·rw[hmk]
     decide
    ·intro z
     obtain⟨o,e⟩:=j3 hD2 z
     rw[e]at hp2
     cases hp2
    ·unfold bL
     rw[if_pos rfl]
   ·obtain⟨x,ms',em⟩:=List.exists_cons_of_ne_nil hm
    have hem:(!(ms.map V.int).isEmpty)=true:=by rw[em]; rfl
    rw[hem]
    refine aV (bE rfl ?_)
    have lin:ms.getLastD 0∈ns:=by
     refine perm.mem_iff.mp ?_
     rw[List.getLastD_eq_getLast?,List.getLast?_eq_some_getLast hm]
     exact List.getLast_mem hm
    obtain⟨bs,hbs⟩:=lC (fs:=D.fs) (n:=aN (ms.getLastD 0)) (by rw[ok.keys]; exact List.mem_map_of_mem lin)
    refine hn _ _ ⟨kvs,D,ms,p,bs,rfl,fun b o e _=>S1 b o e,fun b h=>.inl h,hD1,hl,hm,ok.nums _ lin,hbs,ok.bytes,hread bs hbs,by omega,g1,np,?_⟩
    unfold bL
    rw[if_neg hm]
  rintro σ' H2 ⟨kvs1,D1,ms1,p1,bs,rfl,f2,w2,hD2,hl1,hm1,hnum,hbs,hby,hrd,hfl,g1',no1,egood⟩
  rw[egood]at qs
  clear egood
  obtain⟨dx2,h12⟩:=hD2.self
  obtain⟨hby1,hby2⟩:=hby _ _ hbs
  refine⟨_,rfl,1,rfl,p1,_,_,.int (ms1.getLastD 0),rfl,rfl,SqL.of g1',qU hm1,ms1.getLastD 0,rfl,hnum,?_⟩
  cases er:dN (bs.length+1) bs with
  | none=>exact absurd er hrd
  | some res=>
  obtain⟨ds,k⟩:=res
  obtain⟨rall,rlen⟩:=nR er
  obtain⟨rs,rfl,hrs⟩:=BR rall
  rw[List.length_map]at rlen
  have hk:hX bs=bJ rs:=by
   unfold hX
   rw[er]
   show bJ ((rs.map cS).map uU)=_
   rw[wE]
  refine⟨_,rfl,dk,dx2,_,rfl,h12,rfl,_,rfl,eA (Cz hD2 hnum hbs fun pr H3 S3 g3=>?_)⟩
  refine eA (Cy g3 hby1 hby2 er fun pf pL H4 S4 g4 d4=>?_)
  refine⟨pf,_,_,.ref pL,rfl,rfl,SqT.of g4,bY (by decide) rfl,pL,rs,rfl,d4,by omega,fun p5 H5 S5 hp5 d5=>?_⟩
  have hrs':∀ r∈bJ rs,aZ (cS r)=true:=fun r h=>hrs r (n8 r h)
  have lcut:=oA rs
  generalize bJ rs=rs' at hk d5 hrs' lcut
  simp only[Den]at d5
  obtain⟨_,zs,e5,g5,dz⟩:=d5
  cases e5
  have lz:=dz.length
  rw[List.length_map]at lz
  have S25:=S3.trans (S4.trans S5)
  have hD5:=hD2.same S25
  obtain⟨dx5,h15⟩:=hD5.self
  have g15:=S25 _ _ g1'
  have f5:eV dk df kvs H H5:=fun b o e nb=>S25 _ _ (f2 b o e nb)
  have ld:(aI D1.fs (aN (ms1.getLastD 0))).getD []=bs:=by rw[hbs]; rfl
  unfold tI at qs
  rw[ld,hk]at qs
  have no5:¬ own dk df kvs1 p5:=fun z=>by
   obtain⟨o,e⟩:=j3 hD2 z
   rw[S4 _ _ (S3 _ _ e)]at hp5
   cases hp5
  have bl1:ms1.length<=sizeLine\/True:=.inr trivial
  dsimp only
  refine xZ (fun σ' H'=>σ'=[some (.ref dk),some (.ref p1),some (.str (aN (ms1.getLastD 0))),some (.ref p5),none]/\H'=H5/\¬ (rs'=[]/\1<ms1.length)) (fun n hn=>?_) ?_
  ·refine⟨_,rfl,p5,_,rfl,SqL.of g5,?_⟩
   dsimp only
   by_cases hr0:rs'=[]
   ·have:zs=[]:=List.length_eq_zero_iff.mp (by rw[lz,hr0]; rfl)
    subst this
    refine aT ?_
    refine⟨_,rfl,p1,_,rfl,.inl (SqL.of g15),_,_,rfl,rfl,_,rfl,?_⟩
    rw[List.length_map]
    show if decide ((1:Int)<(ms1.length:Int))=true then _ else _
    by_cases hlen:1<ms1.length
    ·rw[if_pos (decide_eq_true (by omega))]
     refine⟨_,rfl,dk,dx5,_,rfl,h15,rfl,_,rfl,eA (yN hD5 hl1 hnum hbs fun kvs' H6 f6 w6 hD6=>?_)⟩
     have g16:=f6 _ _ g15 no1
     have nown:¬ own dk df kvs' p1:=fun z=>(w6 _ z).elim no1 (fun y=>by rw[y]at g15; cases g15)
     refine⟨_,rfl,1,rfl,_,rfl,p1,_,rfl,SqL.of g16,fun p7 hp7=>?_⟩
     have S7:=aJ (o:=.lst (fN (ms1.map V.int) none (some (-1)))) hp7
     have g7:upd H6 p7 (.lst (fN (ms1.map V.int) none (some (-1)))) p7=some (.lst (fN (ms1.map V.int) none (some (-1)))):=aE
     rw[EQ (by simpa using hm1)]at S7 g7 ⊢
     have ed:(ms1.map V.int).dropLast=ms1.dropLast.map V.int:=by rw[List.map_dropLast]
     rw[ed]at S7 g7 ⊢
     rw[if_pos ⟨hr0,hlen⟩]at qs
     have f6':eV dk df kvs H H6:=eV.trans f5 w2 f6
     have w6':kA dk df kvs kvs' H:=kA.trans f5 w2 w6
     refine qs kvs' _ (fun b o e nb=>S7 _ _ (f6' b o e nb)) w6' (hD6.same S7) p7 g7 (fun z=>?_)
     obtain⟨o,e⟩:=j3 hD6 z
     rw[e]at hp7
     cases hp7
    ·rw[if_neg (by rw[decide_eq_true_eq]; omega)]
     exact bE rfl (hn _ _ ⟨rfl,rfl,fun z=>hlen z.2⟩)
   ·have:(!zs.isEmpty)=true:=by
     cases zs with
     | nil=>exact absurd (List.length_eq_zero_iff.mp lz.symm) hr0
     | cons _ _=>rfl
    rw[this]
    exact aV (aV (bE rfl (hn _ _ ⟨rfl,rfl,fun z=>hr0 z.1⟩)))
  rintro _ _ ⟨rfl,rfl,hnot⟩
  rw[if_neg hnot]at qs
  dsimp only at qs
  rw[hk]at qs
  refine⟨_,rfl,p5,rfl,⟨_,SqL.of g5⟩,?_⟩
  refine fE (cO (K:=K) (SqL.of g5)) (by rw[lz]; exact Nat.le_trans (show _<=100000 by omega) (by decide)) (fun i y _=>∃ r,rs'[i]? = some r/\y = .int ((7+r.2.2.length:Nat):Int)) (fun _ _ _ _ _ h=>h) (fun σ=>∃ z,σ = [z]) ?z0 ?_ ?_
  case z0=>exact⟨none,rfl⟩
  ·intro i x σc H6 hi hσ s6 hx Q' hQ'
   obtain⟨z,rfl⟩:=hσ
   obtain⟨d,hd,dn⟩:=dz.get hx
   rw[List.getElem?_map]at hd
   cases ej:rs'[i]? with
   | none=>rw[ej]at hd; cases hd
   | some r=>
    rw[ej]at hd
    cases (Option.some.inj hd:cS r=d)
    refine⟨_,rfl,eA (wC (dn.same s6) (hrs' r (List.mem_of_getElem? ej)) fun pb H7 S7 g7=>?_)⟩
    refine⟨pb,_,rfl,.inr (SqT.of g7),hQ' _ _ _ ⟨_,rfl⟩ S7 ⟨r,ej,?_⟩⟩
    rw[List.length_map,dM]
  intro pS ys H6 hpS S6 gS hlen hR
  have ey:ys=(rs'.map fun r=>((7+r.2.2.length:Nat):Int)).map V.int:=by
   apply List.ext_getElem?
   intro j
   cases ej:ys[j]? with
   | none=>
    have h1:=List.getElem?_eq_none_iff.mp ej
    rw[List.getElem?_eq_none_iff.mpr]
    rw[List.length_map,List.length_map]
    omega
   | some y=>
    obtain⟨n,e1,rfl⟩:=hR j y ej
    rw[List.getElem?_map,List.getElem?_map,e1]
    rfl
  subst ey
  have esum:(rs'.map fun r=>((7+r.2.2.length:Nat):Int)).sum=((b8 rs':Nat):Int):=by
   unfold b8
   clear hk dz hrs' lcut lz qs hnot gS hR hlen
   induction rs' with
   | nil=>rfl
   | cons r rs ih=>
    rw[List.map_cons,List.map_cons,List.sum_cons,List.sum_cons,ih]
    omega
  refine⟨pS,_,rfl,.inl (SqL.of gS),?_⟩
  rw[esum]
  have hD6:=hD5.same S6
  obtain⟨dx6,h16⟩:=hD6.self
  have f6:eV dk df kvs H H6:=fun b o e nb=>S6 _ _ (f5 b o e nb)
  dsimp only
  refine xZ (fun σ' H'=>∃ kvs3,σ'=[some (.ref dk),some (.ref p1),some (.str (aN (ms1.getLastD 0))),some (.ref p5),some (.int ((b8 rs':Nat):Int))]/\eV dk df kvs H H'/\kA dk df kvs kvs3 H/\DiskAt A.disk H' dk df kvs3 (if b8 rs'<bs.length then kM D1 (aN (ms1.getLastD 0)) (bs.take (b8 rs')) 1 else D1)/\H' p1=some (.lst (ms1.map V.int))/\H' p5=some (.lst zs)/\¬ own dk df kvs3 p1) (fun n hn=>?_) ?_
  ·refine⟨_,rfl,_,rfl,dk,dx6,_,rfl,h16,rfl,_,rfl,eA (rD hD6 hnum hbs fun H7 S7=>?_)⟩
   refine⟨_,_,rfl,rfl,_,rfl,?_⟩
   show if decide (((b8 rs':Nat):Int)<(bs.length:Int))=true then _ else _
   have hD7:=hD6.same S7
   have f7:eV dk df kvs H H7:=fun b o e nb=>S7 _ _ (f6 b o e nb)
   have S57:=S6.trans S7
   by_cases hc:b8 rs'<bs.length
   ·rw[if_pos (decide_eq_true (by omega))]
    obtain⟨dx7,h17⟩:=hD7.self
    refine⟨_,rfl,dk,dx7,_,rfl,h17,rfl,_,rfl,_,rfl,eA (En (k:=b8 rs') hD7 hl1 hnum hfl hbs (Nat.le_of_lt hc) fun kvs3 H8 f8 w8 hD8=>?_)⟩
    refine hn _ _ ⟨kvs3,rfl,eV.trans f7 w2 f8,kA.trans f7 w2 w8,by rw[if_pos hc]; exact hD8,f8 _ _ (S57 _ _ g15) no1,f8 _ _ (S57 _ _ g5) no5,fun z=>(w8 _ z).elim no1 (fun y=>by rw[S57 _ _ g15]at y; cases y)⟩
   ·rw[if_neg (by rw[decide_eq_true_eq]; omega)]
    exact bE rfl (hn _ _ ⟨kvs1,rfl,f7,w2,by rw[if_neg hc]; exact hD7,S57 _ _ g15,S57 _ _ g5,no1⟩)
  rintro _ H8 ⟨kvs3,rfl,f8,w8,hD8,g18,g58,no8⟩
  have hl8:(if b8 rs'<bs.length then kM D1 (aN (ms1.getLastD 0)) (bs.take (b8 rs')) 1 else D1).left=none:=by
   split
   ·rfl
   ·exact hl1
  refine⟨_,rfl,p5,_,rfl,SqL.of g58,?_⟩
  dsimp only
  by_cases hr0:rs'=[]
  ·have:zs=[]:=List.length_eq_zero_iff.mp (by rw[lz,hr0]; rfl)
   subst this
   refine aT ?_
   have hks:b8 rs'=0:=by rw[hr0]; rfl
   have hlk:aI (if b8 rs'<bs.length then kM D1 (aN (ms1.getLastD 0)) (bs.take (b8 rs')) 1 else D1).fs (aN (ms1.getLastD 0))=some []:=by
    split
    ·show aI (cX D1.fs _ _) _=_
     rw[oU hbs,hks]
     rfl
    ·rename_i hc
     have:bs=[]:=List.length_eq_zero_iff.mp (by omega)
     rw[hbs,this]
   have hlen8:∀ m b',aI (if b8 rs'<bs.length then kM D1 (aN (ms1.getLastD 0)) (bs.take (b8 rs')) 1 else D1).fs m=some b'->b'.length<=100000:=fun m b' e=>by
    split at e
    ·have e:aI (cX D1.fs _ _) m=some b':=e
     rw[sX]at e
     split at e
     ·rw[hbs]at e
      cases e
      rw[hks]
      exact Nat.zero_le _
     ·exact(hby _ _ e).2
    ·exact(hby _ _ e).2
   rw[if_pos hr0]at qs
   generalize (if b8 rs'<bs.length then kM D1 (aN (ms1.getLastD 0)) (bs.take (b8 rs')) 1 else D1)=D8 at hD8 hl8 hlk hlen8 qs
   obtain⟨dx8,h18⟩:=hD8.self
   refine⟨_,rfl,dk,dx8,_,rfl,h18,rfl,_,rfl,cC,fun q0 hq0=>⟨cC,fun q1 hq1=>?_⟩⟩
   have U1:=aJ (o:=.tup []) hq0
   have u0:upd H8 q0 (.tup []) q0=some (.tup []):=aE
   generalize upd H8 q0 (.tup [])=H9 at U1 u0 hq1 ⊢
   have U2:=aJ (o:=.tup [.str "from",.int 0,.ref q0]) hq1
   have u1:upd H9 q1 (.tup [.str "from",.int 0,.ref q0]) q1=some (.tup [.str "from",.int 0,.ref q0]):=aE
   generalize upd H9 q1 (.tup [.str "from",.int 0,.ref q0])=H10 at U2 u1 ⊢
   have fo:=Bb (n:=0) (by decide) (by decide)
   refine eA (wC (r:=("from",0,[])) ?_ fo fun pb H11 U3 u3=>?_)
   ·unfold cS gN
    simp only[Den,aU]
    exact⟨q1,_,rfl,u1,_,_,rfl,rfl,_,_,rfl,rfl,_,_,rfl,⟨q0,[],rfl,U2 _ _ u0,rfl⟩,rfl⟩
   have U:=U1.trans (U2.trans U3)
   refine eA (wD (hD8.same U) hl8 hnum hlk hlen8 u3 (jU fo) (by rw[dM]; decide) fun H12 f12 hD12=>?_)
   refine⟨_,rfl,?_⟩
   rw[List.nil_append,dM]at hD12
   have f11:eV dk df kvs H H11:=fun b o e nb=>U _ _ (f8 b o e nb)
   exact qs kvs3 H12 (eV.trans f11 w8 f12) w8 hD12 p1 (f12 _ _ (U _ _ g18) no8) no8
  ·have:(!zs.isEmpty)=true:=by
    cases zs with
    | nil=>exact absurd (List.length_eq_zero_iff.mp lz.symm) hr0
    | cons _ _=>rfl
   rw[this]
   refine aV (bE rfl ?_)
   rw[if_neg hr0]at qs
   exact⟨_,rfl,qs kvs3 H8 f8 w8 hD8 p1 g18 no8⟩
end
end Qh
end
section
namespace Qh
open PySem L2
structure Qs where
 D:Dk
 B:Bk
 most:Int
 hold:Int
 tries:Int
 first:Int
 last:Int
 now:Int
 hs:List (Int × (Str × Int))
structure Pl where
 qu:Addr
 dk:Addr
 df:Addr
 bk:Addr
 de:Addr
 dp:Addr
 hd:Addr
 kvs:List (Key × V)
noncomputable def quF (L:Pl) (q:Qs) (wr:Bool):List (Str × V):=[("disk",.ref L.dk),("most",.int q.most),("hold",.int q.hold),("tries",.int q.tries),("book",.ref L.bk),("first",.int q.first),("last",.int q.last),("writing",.bl wr),("holders",.ref L.hd),("now",.int q.now)]
noncomputable def HoR (H:Hp):List (Int × (Str × Int))->List (Key × V)->Prop
 | [],[]=>True
 | p::hs,r::kvs=>r.1=Sum.inl p.1/\(∃ t,r.2 = .ref t/\H t=some (.tup [.str p.2.1,.int p.2.2]))/\HoR H hs kvs
 | _,_=>False
theorem HoR.t {H H':Hp} (s:gC H H'):∀ {hs:List (Int × (Str × Int))} {kvs:List (Key × V)},HoR H hs kvs->HoR H' hs kvs
 | [],[],_=>trivial
 | p::hs,r::kvs,h=>by
  obtain⟨h1,⟨t,e,g⟩,h3⟩:=h
  exact⟨h1,⟨t,e,s _ _ g⟩,HoR.t s h3⟩
 | [],_::_,h=>h.elim
 | _::_,[],h=>h.elim
noncomputable def zH (L:Pl) (b:Addr):Prop:=b=L.bk\/b=L.de\/b=L.dp
noncomputable def Dv (L:Pl) (b:Addr):Prop:=own L.dk L.df L.kvs b
noncomputable def mZ (L:Pl) (b:Addr):Prop:=b=L.qu\/b=L.hd\/zH L b\/Dv L b
structure QueueW (A:Ad) (H:Hp) (L:Pl) (q:Qs) (wr:Bool):Prop where
 self:∃ dx,H L.qu=some (.ins A.queue dx (quF L q wr))
 disk:DiskAt A.disk H L.dk L.df L.kvs q.D
 book:BookAt A.book H L.bk L.de L.dp q.B
 held:∃ hk,H L.hd=some (.dK hk)/\HoR H q.hs hk
 a_bd:∀ b,zH L b->¬ Dv L b
 a_qu:¬ zH L L.qu/\¬ Dv L L.qu
 a_hd:L.hd≠L.qu/\¬ zH L L.hd/\¬ Dv L L.hd
structure Step (L L':Pl) (H H':Hp):Prop where
 qu:L'.qu=L.qu
 dk:L'.dk=L.dk
 frm:∀ b o,H b=some o->¬ mZ L b->H' b=some o
 grow:∀ b,mZ L' b->mZ L b\/H b=none
 tup:gC H H'
theorem Step.trans {L L1 L2:Pl} {H H1 H2:Hp} (a:Step L L1 H H1) (b:Step L1 L2 H1 H2):Step L L2 H H2:=by
 refine⟨b.qu.trans a.qu,b.dk.trans a.dk,fun c o e nc=>b.frm c o (a.frm c o e nc) (fun z=>(a.grow c z).elim nc (fun y=>by rw[y]at e; cases e)),fun c hc=>?_,a.tup.trans b.tup⟩
 rcases b.grow c hc with z | z
 ·exact a.grow c z
 ·by_cases y:mZ L c
  ·exact .inl y
  ·refine .inr ?_
   cases e:H c with
   | none=>rfl
   | some o=>rw[a.frm c o e y]at z; cases z
theorem aF.step {L:Pl} {H H':Hp} (s:aF H H'):Step L L H H':=⟨rfl,rfl,fun b o e _=>s b o e,fun b h=>.inl h,aF.tup s⟩
theorem Step.not {L L':Pl} {H H':Hp} (a:Step L L' H H') {b:Addr} {o:HO} (e:H b=some o) (n:¬ mZ L b):¬ mZ L' b:=fun z=>(a.grow b z).elim n (fun y=>by rw[y]at e; cases e)
theorem DiskAt.keep {C dk df:Addr} {H H':Hp} {kvs:List (Key × V)} {D:Dk} (h:DiskAt C H dk df kvs D) (s:∀ b o,H b=some o->own dk df kvs b->H' b=some o):DiskAt C H' dk df kvs D:=by
 obtain⟨dx,h1⟩:=h.self
 exact⟨⟨dx,s _ _ h1 (.inl rfl)⟩,s _ _ h.files (.inr (.inl rfl)),h.rel.same fun b o e m=>s b o e (.inr (.inr m)),h.nd,h.kn⟩
theorem BookAt.keep {C bk de dp:Addr} {H H':Hp} {B:Bk} (h:BookAt C H bk de dp B) (s:∀ b o,H b=some o->b=bk\/b=de\/b=dp->H' b=some o) (t:gC H H'):BookAt C H' bk de dp B:=by
 obtain⟨dx,h1⟩:=h.self
 obtain⟨kvs,h2,h3⟩:=h.ent
 obtain⟨ps,h4,h5⟩:=h.par
 exact⟨⟨dx,s _ _ h1 (.inl rfl)⟩,⟨kvs,s _ _ h2 (.inr (.inl rfl)),h3.t t⟩,⟨ps,s _ _ h4 (.inr (.inr rfl)),m6 t (gR _) h5⟩⟩
theorem eV.tup {C dk df:Addr} {H H':Hp} {kvs:List (Key × V)} {D:Dk} (h:DiskAt C H dk df kvs D) (f:eV dk df kvs H H'):gC H H':=fun b xs e=>by
 refine f b _ e ?_
 rintro (rfl | rfl | z)
 ·obtain⟨dx,h1⟩:=h.self
  rw[h1]at e
  cases e
 ·rw[h.files]at e
  cases e
 ·obtain⟨ys,e2⟩:=n6 h.rel z
  rw[e2]at e
  cases e
section
variable {A:Ad} {H H':Hp} {L:Pl} {q:Qs} {wr:Bool}
theorem QueueW.same (h:QueueW A H L q wr) (s:aF H H'):QueueW A H' L q wr:=by
 obtain⟨dx,h1⟩:=h.self
 obtain⟨hk,h2,h3⟩:=h.held
 exact⟨⟨dx,s _ _ h1⟩,h.disk.same s,h.book.same s,⟨hk,s _ _ h2,h3.t (aF.tup s)⟩,h.a_bd,h.a_qu,h.a_hd⟩
theorem QueueW.fields (h:QueueW A H L q wr) {dx:Addr} (q':Qs) (wr':Bool) (eD:q'.D=q.D) (eB:q'.B=q.B) (eH:q'.hs=q.hs):QueueW A (upd H L.qu (.ins A.queue dx (quF L q' wr'))) L q' wr'/\Step L L H (upd H L.qu (.ins A.queue dx (quF L q' wr'))):=by
 obtain⟨dx0,h1⟩:=h.self
 obtain⟨hk,h2,h3⟩:=h.held
 have t:gC H (upd H L.qu (.ins A.queue dx (quF L q' wr'))):=lM h1 (fun xs z=>by cases z)
 refine⟨⟨⟨dx,aE⟩,?_,?_,⟨hk,by rw[aG h.a_hd.1]; exact h2,by rw[eH]; exact h3.t t⟩,h.a_bd,h.a_qu,h.a_hd⟩,⟨rfl,rfl,fun b o e nb=>by rw[aG (fun z=>nb (.inl z))]; exact e,fun b hb=>.inl hb,t⟩⟩
 ·rw[eD]
  refine h.disk.keep fun b o e hb=>?_
  rw[aG (fun z=>by rw[z]at hb; exact h.a_qu.2 hb)]
  exact e
 ·rw[eB]
  refine h.book.keep (fun b o e hb=>?_) t
  rw[aG (fun z=>by rw[z]at hb; exact h.a_qu.1 hb)]
  exact e
theorem QueueW.toDisk (h:QueueW A H L q wr) {kvs':List (Key × V)} {D':Dk} (f:eV L.dk L.df L.kvs H H') (g:kA L.dk L.df L.kvs kvs' H) (hD:DiskAt A.disk H' L.dk L.df kvs' D'):QueueW A H' { L with kvs:=kvs' } { q with D:=D' } wr/\Step L { L with kvs:=kvs' } H H':=by
 obtain⟨dx0,h1⟩:=h.self
 obtain⟨hk,h2,h3⟩:=h.held
 have t:gC H H':=f.tup h.disk
 have far:∀ b o,H b=some o->¬ Dv L b->¬ own L.dk L.df kvs' b:=fun b o e nb z=>(g b z).elim nb (fun y=>by rw[y]at e; cases e)
 refine⟨⟨⟨dx0,f _ _ h1 h.a_qu.2⟩,hD,h.book.keep (fun b o e hb=>f b o e (h.a_bd b hb)) t,⟨hk,f _ _ h2 h.a_hd.2.2,h3.t t⟩,fun b hb=>?_,⟨h.a_qu.1,far _ _ h1 h.a_qu.2⟩,⟨h.a_hd.1,h.a_hd.2.1,far _ _ h2 h.a_hd.2.2⟩⟩,⟨rfl,rfl,fun b o e nb=>f b o e (fun z=>nb (.inr (.inr (.inr z)))),fun b hb=>?_,t⟩⟩
 ·obtain⟨dx,g1⟩:=h.book.self
  obtain⟨kvs,g2,_⟩:=h.book.ent
  obtain⟨ps,g3,_⟩:=h.book.par
  have nb:=h.a_bd b hb
  rcases hb with z | z | z
  ·exact far b _ (by rw[z]; exact g1) nb
  ·exact far b _ (by rw[z]; exact g2) nb
  ·exact far b _ (by rw[z]; exact g3) nb
 ·rcases hb with z | z | z | z
  ·exact .inl (.inl z)
  ·exact .inl (.inr (.inl z))
  ·exact .inl (.inr (.inr (.inl z)))
  ·rcases g b z with y | y
   ·exact .inl (.inr (.inr (.inr y)))
   ·exact .inr y
theorem QueueW.toBook (h:QueueW A H L q wr) {dq:Addr} {B':Bk} (f:Frm L.bk L.de L.dp H H') (hq:dq=L.dp\/H dq=none) (hB:BookAt A.book H' L.bk L.de dq B'):QueueW A H' { L with dp:=dq } { q with B:=B' } wr/\Step L { L with dp:=dq } H H':=by
 obtain⟨dx0,h1⟩:=h.self
 obtain⟨hk,h2,h3⟩:=h.held
 have t:gC H H':=h.book.tup f
 have fr:∀ b o,H b=some o->¬ zH L b->H' b=some o:=fun b o e nb=>f b o e (fun z=>nb (.inl z)) (fun z=>nb (.inr (.inl z))) (fun z=>nb (.inr (.inr z)))
 have nq:∀ b o,H b=some o->¬ zH L b->¬ zH { L with dp:=dq } b:=fun b o e nb z=>by
  rcases z with z | z | z
  ·exact nb (.inl z)
  ·exact nb (.inr (.inl z))
  ·rcases hq with y | y
   ·exact nb (.inr (.inr (z.trans y)))
   ·have z:b=dq:=z
    rw[z,y]at e
    cases e
 refine⟨⟨⟨dx0,fr _ _ h1 h.a_qu.1⟩,h.disk.keep (fun b o e hb=>fr b o e (fun z=>h.a_bd b z hb)),hB,⟨hk,fr _ _ h2 h.a_hd.2.1,h3.t t⟩,fun b hb hd=>?_,⟨nq _ _ h1 h.a_qu.1,h.a_qu.2⟩,⟨h.a_hd.1,nq _ _ h2 h.a_hd.2.1,h.a_hd.2.2⟩⟩,⟨rfl,rfl,fun b o e nb=>fr b o e (fun z=>nb (.inr (.inr (.inl z)))),fun b hb=>?_,t⟩⟩
 ·obtain⟨o,e⟩:=j3 h.disk hd
  by_cases y:zH L b
  ·exact h.a_bd b y hd
  ·exact nq b o e y hb
 ·rcases hb with z | z | z | z
  ·exact .inl (.inl z)
  ·exact .inl (.inr (.inl z))
  ·rcases z with z | z | z
   ·exact .inl (.inr (.inr (.inl (.inl z))))
   ·exact .inl (.inr (.inr (.inl (.inr (.inl z)))))
   ·rcases hq with y | y
    ·exact .inl (.inr (.inr (.inl (.inr (.inr (z.trans y))))))
    ·have z:b=dq:=z
     rw[z]
     exact .inr y
  ·exact .inl (.inr (.inr (.inr z)))
end
end Qh
end
section
namespace Qh
open PySem L2
noncomputable abbrev kQ:Stmt:=bI (top 52) 8
noncomputable abbrev rX:Stmt:=bI (top 52) 17
noncomputable abbrev o9:Stmt:=bI (top 52) 9
noncomputable abbrev mS:Stmt:=bI (top 52) 12
noncomputable abbrev o8:Stmt:=bI (top 52) 14
theorem nY {H:Hp} {n:Int} {e:Ent} {v:V} (h:Den H (zG n e) v):∃ t b,v = .ref t/\H t=some (.tup [.int n,.ref b,.int e.2.1])/\H b=some (.tup (e.1.map V.int)):=by
 unfold zG at h
 simp only[Den,aU]at h
 obtain⟨t,_,rfl,h1,_,_,rfl,rfl,_,_,rfl,⟨b,ys,rfl,h2,h3⟩,_,_,rfl,rfl,rfl⟩:=h
 rw[bR.mp h3]at h2
 exact⟨t,b,rfl,h1,h2⟩
theorem Aa {α : Type} (xs:List α) (d:α):(List.range xs.length).map (fun j=>xs.getD j d)=xs:=by
 apply List.ext_getElem?
 intro i
 rw[List.getElem?_map]
 by_cases h:i<xs.length
 ·rw[List.getElem?_range h,Option.map_some,List.getD_eq_getElem?_getD,List.getElem?_eq_getElem h]
  rfl
 ·rw[List.getElem?_eq_none (by rw[List.length_range]; omega),List.getElem?_eq_none (by omega)]
  rfl
theorem zL (ms:List Int) (t:Int->Bool):((List.range ms.length).filter (fun j=>t (ms.getD j 0))).map (fun j=>V.int (ms.getD j 0))=(ms.filter t).map V.int:=by
 have h:=congrArg (fun l=>(l.filter t).map V.int) (Aa ms 0)
 rw[List.filter_map,List.map_map]at h
 exact h
noncomputable def jC (es:List (Int × Ent)) (n:Int):Int:=((dQ es n).getD ([],0,0)).2.1
noncomputable def jF (A:Ad):Sp:=fun vs H Q _=>∃ (L:Pl) (q:Qs),vs=[.ref L.qu]/\QueueW A H L q false/\q.B.es.length<500/\
 ∀ ms,List.Perm ms (q.B.es.map (·.1))->ms.Pairwise (· <= ·)->∀ p H',aF H H'->Den H' (.list (ms.map (A4 q.B.es))) (.ref p)->Q (.ref p) H'
noncomputable def fA (hs:List (Int × (Str × Int))) (n:Int):Option (Str × Int):=(hs.find? fun p=>decide (p.1=n)).map (·.2)
noncomputable def lE (hs:List (Int × (Str × Int))) (n:Int):Bool:=(fA hs n).isNone
noncomputable def oO (A:Ad):Sp:=fun vs H Q _=>∃ (L:Pl) (q:Qs),vs=[.ref L.qu]/\QueueW A H L q false/\q.B.es.length<500/\
 ∀ ms,List.Perm ms (q.B.es.map (·.1))->ms.Pairwise (· <= ·)->∀ p H',aF H H'->Den H' (.list ((ms.filter (lE q.hs)).map (A4 q.B.es))) (.ref p)->Q (.ref p) H'
noncomputable def oK (A:Ad) (t:Int->Int->Bool):Sp:=fun vs H Q _=>∃ (L:Pl) (q:Qs),vs=[.ref L.qu]/\QueueW A H L q false/\q.B.es.length<500/\
 ∀ ms,List.Perm ms (q.B.es.map (·.1))->ms.Pairwise (· <= ·)->∀ p H',aF H H'->H p=none->H' p=some (.lst (((ms.filter (lE q.hs)).filter fun n=>t (jC q.B.es n) q.tries).map V.int))->Q (.ref p) H'
noncomputable def ltB (i j:Int):Bool:=decide (i<j)
noncomputable def kK (A:Ad):Sp:=fun vs H Q _=>∃ (L:Pl) (q:Qs),vs=[.ref L.qu]/\QueueW A H L q false/\Q (.int q.B.up) H
noncomputable def bZ (A:Ad):Sp:=fun vs H Q _=>∃ (L:Pl) (q:Qs) (ns:List Int),vs=[.ref L.qu]/\QueueW A H L q false/\q.D.fs.map (·.1)=ns.map aN/\(∀ n∈ns,cR n)/\ns.length<500/\∀ ms,List.Perm ms ns->ms.Pairwise (· <= ·)->iH ms/\∀ p H',aF H H'->H' p=some (.lst ((ms.map fun n=>((kB q.D n:Nat):Int)).map V.int))->Q (.ref p) H'
theorem HoR.look {H:Hp} {n:Int}:∀ {hs:List (Int × (Str × Int))} {hk:List (Key × V)},HoR H hs hk->(fA hs n=none->eE hk (Sum.inl n)=none)/\∀ x tm,fA hs n=some (x,tm)->∃ t,eE hk (Sum.inl n)=some (.ref t)/\H t=some (.tup [.str x,.int tm])
 | [],[],_=>⟨fun _=>rfl,fun x tm e=>by cases e⟩
 | p::hs,r::hk,h=>by
  obtain⟨h1,⟨t,e2,g⟩,h3⟩:=h
  have ih:=HoR.look (n:=n) h3
  by_cases e:p.1=n
  ·have e1:fA (p::hs) n=some p.2:=by
    unfold fA
    rw[List.find?_cons,decide_eq_true e]
    rfl
   rw[e1,gU (by rw[h1,e])]
   refine⟨(fun z=>by cases z),fun x tm z=>⟨t,by rw[e2],?_⟩⟩
   rw[Option.some.inj z]at g
   exact g
  ·have e1:fA (p::hs) n=fA hs n:=by
    unfold fA
    rw[List.find?_cons,decide_eq_false e]
   rw[e1,gW (fun z=>e (Sum.inl.inj (h1.symm.trans z)))]
   exact ih
 | [],_::_,h=>h.elim
 | _::_,[],h=>h.elim
theorem HoR.snoc {H:Hp} {n:Int} {x:Str} {tm:Int} {t:Addr} (g:H t=some (.tup [.str x,.int tm])):∀ {hs:List (Int × (Str × Int))} {hk:List (Key × V)},HoR H hs hk->HoR H (hs++[(n,(x,tm))]) (hk++[(Sum.inl n,.ref t)])
 | [],[],_=>⟨rfl,⟨t,rfl,g⟩,trivial⟩
 | _::_,_::_,⟨h1,h2,h3⟩=>⟨h1,h2,HoR.snoc g h3⟩
 | [],_::_,h=>h.elim
 | _::_,[],h=>h.elim
noncomputable def qA (hs:List (Int × (Str × Int))) (n:Int):List (Int × (Str × Int)):=hs.filter fun p=>decide (p.1≠n)
theorem HoR.drop {H:Hp} {n:Int}:∀ {hs:List (Int × (Str × Int))} {hk:List (Key × V)},HoR H hs hk->HoR H (qA hs n) (gB hk (Sum.inl n))
 | [],[],_=>trivial
 | p::hs,r::hk,h=>by
  obtain⟨h1,h2,h3⟩:=h
  have ih:=HoR.drop (n:=n) h3
  unfold qA gB at ih ⊢
  rw[List.filter_cons,List.filter_cons]
  by_cases e:p.1=n
  ·rw[if_neg (by rw[decide_eq_true_eq]; exact fun z=>z e),if_neg (by rw[decide_eq_true_eq,h1,e]; exact fun z=>z rfl)]
   exact ih
  ·rw[if_pos (show decide (p.1≠n)=true from decide_eq_true e),if_pos (show decide (r.1≠Sum.inl n)=true from decide_eq_true (fun z=>e (Sum.inl.inj (h1.symm.trans z))))]
   exact⟨h1,h2,ih⟩
 | [],_::_,h=>h.elim
 | _::_,[],h=>h.elim
theorem HoR.len {H:Hp}:∀ {hs:List (Int × (Str × Int))} {hk:List (Key × V)},HoR H hs hk->hk.length=hs.length
 | [],[],_=>rfl
 | _::_,_::_,⟨_,_,h3⟩=>by rw[List.length_cons,List.length_cons,HoR.len h3]
 | [],_::_,h=>h.elim
 | _::_,[],h=>h.elim
theorem zX {H:Hp} {f:Int->PyData} {p:Int->Bool}:∀ {ms:List Int} {xs:List V},aU H (ms.map f) xs->aU H ((ms.filter p).map f) (((List.range xs.length).filter fun j=>p (ms.getD j 0)).map fun j=>xs.getD j .non)
 | [],xs,h=>by
  have h:aU H [] xs:=h
  simp only[aU]at h
  subst h
  simp only[List.filter_nil,List.map_nil,List.length_nil,List.range_zero,aU]
 | m::ms,xs,h=>by
  rw[List.map_cons]at h
  simp only[aU]at h
  obtain⟨x,r,rfl,h1,h2⟩:=h
  have ih:=zX (p:=p) h2
  rw[List.length_cons,List.range_succ_eq_map,List.filter_cons,List.filter_cons,List.filter_map]
  have e0:((m::ms).getD 0 0)=m:=rfl
  have e1:((fun j=>p ((m::ms).getD j 0)) ∘ Nat.succ)=fun j=>p (ms.getD j 0):=rfl
  rw[e0,e1]
  cases hp:p m with
  | true=>
   rw[if_pos rfl,if_pos rfl,List.map_cons,List.map_cons,List.map_map]
   simp only[aU]
   exact⟨x,_,rfl,h1,ih⟩
  | false=>
   rw[if_neg (by decide),if_neg (by decide),List.map_map]
   exact ih
theorem fY {a b:List Int} (h:List.Perm a b) (ha:a.Pairwise (· <= ·)) (hb:b.Pairwise (· <= ·)):a=b:=List.Perm.eq_of_pairwise (fun x y _ _ h1 h2=>by omega) ha hb h
section
variable {P:Program} {w:World} {K:PySem.W.Frag} {mg:Str->Option Value} {base:Heap} {A:Ad}
theorem oW:FnScope ["self"] ["self"] (aH kQ):=‹0›
theorem xJ {f:Addr} {fd:FuncData} (F:Fun K "letters" "Queue.letters" kQ f fd) (T:TxtQ K mg A) (mB_letters:‹9› A.book "letters" 2 ["self"] (jG A.book)):‹7› 3 f fd ["self"] (jF A):=by
 refine F.okX oW (fun vs H Q E h=>?_) (fun cdv A' outer s H vs Q E hr h=>?_)
 ·obtain⟨L,q,rfl,_⟩:=h
  rfl
 ·obtain⟨L,q,rfl,hq,hl,qq⟩:=h
  refine⟨_,@aC _ _ _ (@bA _ _ _ _ (@cU _ _ _ _ _ _ _ _ _ _ _ _ mB_letters T.cl_Book ‹12› aW ‹27› ⋯)),?_⟩
  obtain⟨dx,h1⟩:=hq.self
  obtain⟨db,h2⟩:=hq.book.self
  exact⟨_,rfl,L.qu,_,dx,_,_,rfl,h1,T.cl_Queue,T.f_book,rfl,L.bk,db,_,rfl,h2,rfl,L.bk,L.de,L.dp,q.B,rfl,hq.book,hl,qq⟩
theorem qF:FnScope ["self"] ["self"] (aH mS):=‹0›
theorem y7 {f:Addr} {fd:FuncData} (F:Fun K "coming" "Queue.coming" mS f fd) (T:TxtQ K mg A):‹7› 1 f fd ["self"] (kK A):=by
 refine F.okX qF (fun vs H Q E h=>?_) (fun cdv A' outer s H vs Q E hr h=>?_)
 ·obtain⟨L,q,rfl,_⟩:=h
  rfl
 ·obtain⟨L,q,rfl,hq,qq⟩:=h
  refine⟨_,@aC _ _ _ (@bA _ _ _ _ (@dD _ _ _ _ _ ‹27› (by rfl))),?_⟩
  obtain⟨dx,h1⟩:=hq.self
  obtain⟨db,h2⟩:=hq.book.self
  exact⟨_,rfl,L.qu,_,dx,_,_,rfl,h1,T.cl_Queue,T.f_book,rfl,L.bk,_,db,_,_,rfl,h2,T.cl_Book,T.f_upcoming,rfl,qq⟩
theorem kH:FnScope ["self"] ["self"] (aH rX):=‹0›
set_option maxHeartbeats 1000000 in
theorem CH {f:Addr} {fd:FuncData} (F:Fun K "free_letters" "Queue.free_letters" rX f fd) (T:TxtQ K mg A) (mB_letters:‹9› A.book "letters" 2 ["self"] (jG A.book)):‹7› 3 f fd ["self"] (oO A):=by
 refine F.okX kH (fun vs H Q E h=>?_) (fun cdv A' outer s H vs Q E hr h=>?_)
 ·obtain⟨L,q,rfl,_⟩:=h
  rfl
 ·obtain⟨L,q,rfl,hq,hl,qq⟩:=h
  refine⟨_,@aC _ _ _ (@bA _ _ _ _ (@eP _ _ _ _ _ _ _ _ _ _ _ ["letter"] [("self",0)] (by rfl) (@cP _ K _ _ _ (@cU _ _ _ _ _ _ _ _ _ _ _ _ mB_letters T.cl_Book ‹12› aW ‹27› ⋯) ⋯) (fun C s2 H2 ex=>(@bW _ _ (0) _ (show List.Nodup (["letter","self"]:List Str) by decide +kernel) (by rfl) (Or.inl (by rfl)) ⋯)) (fun C s2 H2 ex=>(@qQ _ _ _ (@sF _ _ _ _ _ _ (@pK _ _ _ _ _ (hu1 hr.units) ‹30› (@qR K _ _ _ _ _ ‹18› (by rfl) ⋯)) ⋯))) (fun C s2 H2 ex=>‹17›) ⋯ ⋯ ⋯ ⋯)),?_⟩
  obtain⟨dx,h1⟩:=hq.self
  obtain⟨db,h2⟩:=hq.book.self
  obtain⟨hk,h3,h4⟩:=hq.held
  refine⟨_,rfl,L.qu,_,dx,_,_,rfl,h1,T.cl_Queue,T.f_book,rfl,L.bk,db,_,rfl,h2,rfl,L.bk,L.de,L.dp,q.B,rfl,hq.book,hl,fun ms perm pw p H1 S1 d1=>?_⟩
  have d1':=d1
  simp only[Den]at d1'
  obtain⟨_,xs,e1,g1,dx1⟩:=d1'
  cases e1
  have lx:=dx1.length
  rw[List.length_map]at lx
  have pl:=perm.length_eq
  rw[List.length_map]at pl
  refine⟨p,rfl,⟨_,SqL.of g1⟩,?_⟩
  refine oB (cO (K:=K) (SqL.of g1)) (by rw[lx,pl]; exact Nat.le_of_lt (Nat.lt_trans hl (by decide))) (fun j=>lE q.hs (ms.getD j 0)) (fun j=>xs.getD j .non) (fun σ=>∃ z,σ = [z,some (.ref L.qu)]) ?z0 ?_ ?_
  case z0=>exact⟨none,rfl⟩
  ·intro j x σc H3 hj hσ s3 hx Q1 Q2 Q3 h2' h3'
   obtain⟨z,rfl⟩:=hσ
   obtain⟨d,hd,dn⟩:=dx1.get hx
   rw[List.getElem?_map]at hd
   cases ej:ms[j]? with
   | none=>rw[ej]at hd; cases hd
   | some n=>
    rw[ej]at hd
    cases (Option.some.inj hd:A4 q.B.es n=d)
    obtain⟨t,b,rfl,gt,gb⟩:=nY dn
    have eg:xs.getD j .non = .ref t:=by rw[List.getD_eq_getElem?_getD,hx]; rfl
    have em:ms.getD j 0=n:=by rw[List.getD_eq_getElem?_getD,ej]; rfl
    rw[eg,em]at h2'
    rw[em]at h3'
    have dg:eO H3 L.hd (.int n) (eE hk (Sum.inl n)):=eO.k (k:=Sum.inl n) (s3 _ _ (S1 _ _ h3))
    refine⟨_,rfl,t,_,_,.int n,rfl,rfl,SqT.of (s3 _ _ gt),bY (by decide) rfl,_,rfl,L.qu,_,dx,_,_,rfl,s3 _ _ (S1 _ _ h1),T.cl_Queue,T.f_holders,rfl,L.hd,_,rfl,dg,_,rfl,?_⟩
    cases el:fA q.hs n with
    | none=>
     rw[(h4.look (n:=n)).1 el]
     exact aT ⟨_,rfl,h2' _ ⟨_,rfl⟩ (by unfold lE; rw[el]; rfl)⟩
    | some o=>
     obtain⟨t',ev,_⟩:=(h4.look (n:=n)).2 o.1 o.2 el
     rw[ev]
     exact aV (h3' _ ⟨_,rfl⟩ (by unfold lE; rw[el]; rfl))
  intro D H2 hD S2 g2
  refine qq ms perm pw D H2 (S1.trans S2) ?_
  simp only[Den]
  exact⟨D,_,rfl,g2,(zX dx1).same S2⟩
theorem rS:FnScope ["self"] ["self"] (aH o9):=‹0›
set_option maxHeartbeats 1000000 in
theorem Am {f:Addr} {fd:FuncData} (F:Fun K "ready" "Queue.ready" o9 f fd) (T:TxtQ K mg A) (mQ_free_letters:‹9› A.queue "free_letters" 3 ["self"] (oO A)):‹7› 4 f fd ["self"] (oK A ltB):=by
 refine F.okX rS (fun vs H Q E h=>?_) (fun cdv A' outer s H vs Q E hr h=>?_)
 ·obtain⟨L,q,rfl,_⟩:=h
  rfl
 ·obtain⟨L,q,rfl,hq,hl,qq⟩:=h
  refine⟨_,@aC _ _ _ (@bA _ _ _ _ (@eP _ _ _ _ _ _ _ _ _ _ _ ["letter"] [("self",0)] (by rfl) (@cP _ K _ _ _ (@cU _ _ _ _ _ _ _ _ _ _ _ _ mQ_free_letters T.cl_Queue ‹12› aW ‹17› ⋯) ⋯) (fun C s2 H2 ex=>(@bW _ _ (0) _ (show List.Nodup (["letter","self"]:List Str) by decide +kernel) (by rfl) (Or.inl (by rfl)) ⋯)) (fun C s2 H2 ex=>(@qQ _ _ _ (@aS _ _ _ _ _ _ _ _ vE ‹30› (@qR K _ _ _ _ _ ‹18› (by rfl) ⋯) (aX _)))) (fun C s2 H2 ex=>‹30›) ⋯ ⋯ ⋯ ⋯)),?_⟩
  obtain⟨dx,h1⟩:=hq.self
  refine⟨_,rfl,L.qu,dx,_,rfl,h1,rfl,L,q,rfl,hq,hl,fun ms0 perm pw p H1 S1 d1=>?_⟩
  obtain⟨ms,hms⟩:∃ ms,ms=ms0.filter (lE q.hs):=⟨_,rfl⟩
  rw[<- hms]at d1
  have d1':=d1
  simp only[Den]at d1'
  obtain⟨_,xs,e1,g1,dx1⟩:=d1'
  cases e1
  have lx:=dx1.length
  rw[List.length_map]at lx
  have pl:=perm.length_eq
  rw[List.length_map]at pl
  have pl2:ms.length<=ms0.length:=by rw[hms]; exact List.length_filter_le _ _
  refine⟨p,rfl,⟨_,SqL.of g1⟩,?_⟩
  refine oB (cO (K:=K) (SqL.of g1)) (by rw[lx]; exact Nat.le_of_lt (Nat.lt_of_le_of_lt (show _<=q.B.es.length by omega) (Nat.lt_trans hl (by decide)))) (fun j=>ltB (jC q.B.es (ms.getD j 0)) q.tries) (fun j=>V.int (ms.getD j 0)) (fun σ=>∃ z,σ = [z,some (.ref L.qu)]) ?z0 ?_ ?_
  case z0=>exact⟨none,rfl⟩
  ·intro j x σc H3 hj hσ s3 hx Q1 Q2 Q3 h2' h3'
   obtain⟨z,rfl⟩:=hσ
   obtain⟨d,hd,dn⟩:=dx1.get hx
   rw[List.getElem?_map]at hd
   cases ej:ms[j]? with
   | none=>rw[ej]at hd; cases hd
   | some n=>
    rw[ej]at hd
    cases (Option.some.inj hd:A4 q.B.es n=d)
    obtain⟨t,b,rfl,gt,gb⟩:=nY dn
    have eg:ms.getD j 0=n:=by rw[List.getD_eq_getElem?_getD,ej]; rfl
    rw[eg]at h2' h3'
    refine⟨_,rfl,t,_,_,.int (jC q.B.es n),rfl,rfl,SqT.of (s3 _ _ gt),bY (by decide) rfl,_,rfl,L.qu,_,dx,_,_,rfl,s3 _ _ (S1 _ _ h1),T.cl_Queue,T.f_tries,rfl,_,_,rfl,rfl,_,rfl,?_⟩
    show if ltB (jC q.B.es n) q.tries=true then _ else _
    cases hb:ltB (jC q.B.es n) q.tries with
    | true=>exact aT ⟨_,rfl,t,_,_,.int n,rfl,rfl,SqT.of (s3 _ _ gt),bY (by decide) rfl,h2' _ ⟨_,rfl⟩ hb⟩
    | false=>exact aV (h3' _ ⟨_,rfl⟩ hb)
  intro D H2 hD S2 g2
  rw[lx,zL ms (fun n=>ltB (jC q.B.es n) q.tries)]at g2
  rw[hms]at g2
  exact qq ms0 perm pw D H2 (S1.trans S2) (S1.free hD) g2
theorem rR:FnScope ["self"] ["self"] (aH o8):=‹0›
set_option maxHeartbeats 1000000 in
theorem Al {f:Addr} {fd:FuncData} (F:Fun K "sizes" "Queue.sizes" o8 f fd) (T:TxtQ K mg A) (c_segment_name:‹2›) (c_segments_on:‹8› "segments_on" 3 ["disk"] (dY A)) (mD_size:‹9› A.disk "size" 4 ["self","name"] (lN A.disk A.badName A.missing)):‹7› 5 f fd ["self"] (bZ A):=by
 refine F.okX rR (fun vs H Q E h=>?_) (fun cdv A' outer s H vs Q E hr h=>?_)
 ·obtain⟨L,q,ns,rfl,_⟩:=h
  rfl
 ·obtain⟨L,q,ns,rfl,hq,hk,hn,hl,qq⟩:=h
  refine⟨_,@aC _ _ _ (@bA _ _ _ _ (@eP _ _ _ _ _ _ _ _ _ _ _ ["segment"] [("self",0)] (by rfl) (@cP _ K _ _ _ (@bB _ _ _ _ _ _ _ _ _ _ _ c_segments_on ‹12› bK ‹44› ⋯ ⋯ ⋯ ⋯) ⋯) (fun C s2 H2 ex=>(@bW _ _ (0) _ (show List.Nodup (["segment","self"]:List Str) by decide +kernel) (by rfl) (Or.inl (by rfl)) ⋯)) ‹26› (fun C s2 H2 ex=>(@cB _ _ _ _ _ _ _ _ _ _ _ _ _ _ _ mD_size T.cl_Disk ‹12› aW (@qR K _ _ _ _ _ ‹18› (by rfl) ⋯) (@cJ _ _ _ _ _ _ _ _ (@bB _ _ _ _ _ _ _ _ _ _ _ c_segment_name ‹12› aW ‹33› ⋯ ⋯ ⋯ ⋯) (@aB _)) ⋯ ⋯ ⋯)) ⋯ ⋯ ⋯ ⋯)),?_⟩
  obtain⟨dx,h1⟩:=hq.self
  refine⟨_,rfl,L.qu,_,dx,_,_,rfl,h1,T.cl_Queue,T.f_disk,rfl,L.dk,L.df,L.kvs,q.D,ns,rfl,hq.disk,hk,hn,hl,fun ms perm pw hg p H1 S1 hp g1=>?_,fun ms perm pw hg=>absurd (qq ms perm pw).1 hg⟩
  obtain⟨_,qs⟩:=qq ms perm pw
  have pl:=perm.length_eq
  refine⟨p,rfl,⟨_,SqL.of g1⟩,?_⟩
  refine fE (cO (K:=K) (SqL.of g1)) (by rw[List.length_map,pl]; exact Nat.le_of_lt (Nat.lt_trans hl (by decide))) (fun i y _=>∃ n,ms[i]? = some n/\y = .int ((kB q.D n:Nat):Int)) (fun _ _ _ _ _ h=>h) (fun σ=>∃ z,σ = [z,some (.ref L.qu)]) ?z0 ?_ ?_
  case z0=>exact⟨none,rfl⟩
  ·intro i x σc H3 hi hσ s3 hx Q' hQ'
   obtain⟨z,rfl⟩:=hσ
   rw[List.getElem?_map]at hx
   cases e:ms[i]? with
   | none=>rw[e]at hx; cases hx
   | some n=>
    rw[e]at hx
    cases hx
    have nin:n∈ns:=perm.mem_iff.mp (List.mem_of_getElem? e)
    obtain⟨bs,hbs⟩:=lC (fs:=q.D.fs) (n:=aN n) (by rw[hk]; exact List.mem_map_of_mem nin)
    have S13:=S1.trans s3
    obtain⟨dd,h2⟩:=hq.disk.self
    refine⟨_,rfl,L.qu,_,dx,_,_,rfl,S13 _ _ h1,T.cl_Queue,T.f_disk,rfl,L.dk,dd,_,rfl,S13 _ _ h2,rfl,_,rfl,n,rfl,hn n nin,eA (rD (hq.disk.same S13) (hn n nin) hbs fun H4 S4=>?_)⟩
    refine hQ' _ _ _ ⟨_,rfl⟩ S4 ⟨n,e,?_⟩
    unfold kB
    rw[hbs]
    rfl
  intro D ys H2 hD S2 g2 hlen hR
  have ey:ys=(ms.map fun n=>((kB q.D n:Nat):Int)).map V.int:=by
   apply List.ext_getElem?
   intro j
   cases ej:ys[j]? with
   | none=>
    have h1:=List.getElem?_eq_none_iff.mp ej
    rw[List.getElem?_eq_none_iff.mpr]
    rw[List.length_map,List.length_map]
    rw[List.length_map]at hlen
    omega
   | some y=>
    obtain⟨n,e1,rfl⟩:=hR j y ej
    rw[List.getElem?_map,List.getElem?_map,e1]
    rfl
  rw[ey]at g2
  exact qs D H2 (S1.trans S2) g2
end
end Qh
end
section
namespace Qh
open PySem L2
noncomputable abbrev rW:Stmt:=bI (top 52) 20
noncomputable abbrev pC:Stmt:=bI (top 52) 21
noncomputable abbrev pA:Stmt:=bI (top 52) 22
noncomputable abbrev o6:Stmt:=bI (top 52) 19
noncomputable def cH (rs:List Rw):List Int:=(rs.map fun r=>iR r.1 r.2.1 r.2.2).flatten
noncomputable def gF (q:Qs):List Int:=(aI q.D.fs (aN q.last)).getD []
noncomputable def vR (q:Qs) (bs:List Int):Bool:=!decide (q.B.up > 999999) && decide ((bs.length:Int) ≥ q.most)
noncomputable def tX (q:Qs):Qs:={ q with D:=kM (mkN q.D (aN (q.last+1))) (aN (q.last+1)) (iR "from" q.B.up []) 7,last:=q.last+1 }
noncomputable def a7 (q:Qs):Qs:=if vR q (gF q)=true then tX q else q
noncomputable def yI (q:Qs) (bs:List Int) (B:Bk):Qs:={ q with D:=kM q.D (aN q.last) (gF q++bs) bs.length,B:=B }
structure WOk (q:Qs) (k:Nat):Prop where
 left:q.D.left=none
 last:cR q.last
 nxt:cR (q.last+1)
 here:∃ bs,aI q.D.fs (aN q.last)=some bs
 new:aI q.D.fs (aN (q.last+1))=none
 len:∀ n bs,aI q.D.fs n=some bs->bs.length<=100000
 files:q.D.fs.length<900
 up:0<=q.B.up
 ents:q.B.es.length+q.B.parts.length+k<900
noncomputable def oN (A:Ad):Sp:=fun vs H Q _=>∃ (L:Pl) (q:Qs) (wr:Bool) (bs:List Int),vs=[.ref L.qu]/\QueueW A H L q wr/\cR q.last/\aI q.D.fs (aN q.last)=some bs/\∀ H',aF H H'->Q (.bl (vR q bs)) H'
noncomputable def mI (A:Ad):Sp:=fun vs H Q _=>∃ (L:Pl) (q:Qs) (wr:Bool),vs=[.ref L.qu]/\QueueW A H L q wr/\q.D.left=none/\cR (q.last+1)/\aI q.D.fs (aN (q.last+1))=none/\q.D.fs.length<1000/\(∀ n bs,aI q.D.fs n=some bs->bs.length<=100000)/\0<=q.B.up/\q.B.up<=999999/\∀ L' H',Step L L' H H'->QueueW A H' L' (tX q) wr->Q .non H'
noncomputable def mG (A:Ad):Sp:=fun vs H Q _=>∃ (L:Pl) (q:Qs) (wr:Bool) (bs:List Int),vs=[.ref L.qu]/\QueueW A H L q wr/\q.D.left=none/\cR q.first/\aI q.D.fs (aN q.first)=some bs/\∀ L' H',Step L L' H H'->QueueW A H' L' { q with D:=zR q.D (aN q.first),first:=q.first+1 } wr->Q .non H'
noncomputable def gY (A:Ad):Sp:=fun vs H Q _=>∃ (L:Pl) (q:Qs) (a:Addr) (rs:List Rw) (B':Bk),vs=[.ref L.qu,.ref a]/\QueueW A H L q false/\WOk q rs.length/\¬ mZ L a/\Den H (.list (rs.map cS)) (.ref a)/\(∀ r∈rs,aZ (cS r)=true)/\dF (a7 q).last (a7 q).B rs=some B'/\∀ L' H',Step L L' H H'->QueueW A H' L' (yI (a7 q) (cH rs) B') false->Q .non H'
section
variable {P:Program} {w:World} {K:PySem.W.Frag} {mg:Str->Option Value} {base:Heap} {A:Ad}
theorem kG:FnScope ["self"] ["self"] (aH rW):=‹0›
theorem CG {f:Addr} {fd:FuncData} (F:Fun K "is_last_full" "Queue.is_last_full" rW f fd) (T:TxtQ K mg A) (c_segment_name:‹2›) (mD_size:‹9› A.disk "size" 4 ["self","name"] (lN A.disk A.badName A.missing)):‹7› 5 f fd ["self"] (oN A):=by
 obtain⟨_,hc_HIGHEST_NUMBER⟩:=T.c_HIGHEST_NUMBER
 refine F.okX kG (fun vs H Q E h=>?_) (fun cdv A' outer s H vs Q E hr h=>?_)
 ·obtain⟨L,q,wr,bs,rfl,_⟩:=h
  rfl
 ·obtain⟨L,q,wr,bs,rfl,hq,hn,hbs,qq⟩:=h
  refine⟨_,@aA _ _ _ _ _ (@a9 _ _ _ _ _ _ _ _ (@aS _ _ _ _ _ _ _ _ vF (@dD _ _ _ _ _ ‹27› (by rfl)) (@bX _ _ (.int 999999) _ _ (by rfl) hc_HIGHEST_NUMBER ⟨_,rfl⟩ ⋯) (aX _)) ‹24› (@aP _)) (@aC _ _ _ (@bA _ _ _ _ (@jZ _ _ _ _ _ _ _ _ BV (@cB _ _ _ _ _ _ _ _ _ _ _ _ _ _ _ mD_size T.cl_Disk ‹12› bK ‹27› (@cJ _ _ _ _ _ _ _ _ (@bB _ _ _ _ _ _ _ _ _ _ _ c_segment_name ‹12› aW ‹44› ⋯ ⋯ ⋯ ⋯) (@aB _)) ⋯ ⋯ ⋯) ‹27› (aX _)))),?_⟩
  obtain⟨dx,h1⟩:=hq.self
  obtain⟨db,h2⟩:=hq.book.self
  obtain⟨dd,h3⟩:=hq.disk.self
  unfold vR at qq
  refine⟨_,rfl,L.qu,_,dx,_,_,rfl,h1,T.cl_Queue,T.f_book,rfl,L.bk,_,db,_,_,rfl,h2,T.cl_Book,T.f_upcoming,rfl,_,_,rfl,rfl,_,rfl,?_⟩
  show if decide (q.B.up > 999999)=true then _ else _
  by_cases hu:q.B.up > 999999
  ·rw[if_pos (decide_eq_true hu)]
   rw[decide_eq_true hu]at qq
   exact qq H (aF.refl H)
  ·rw[if_neg (by rw[decide_eq_true_eq]; exact hu)]
   rw[decide_eq_false hu]at qq
   refine bE rfl ?_
   refine⟨_,rfl,L.qu,_,dx,_,_,rfl,h1,T.cl_Queue,T.f_disk,rfl,L.dk,dd,_,rfl,h3,rfl,_,rfl,L.qu,_,dx,_,_,rfl,h1,T.cl_Queue,T.f_last,rfl,q.last,rfl,hn,eA (rD hq.disk hn hbs fun H1 S1=>?_)⟩
   exact⟨_,rfl,L.qu,_,dx,_,_,rfl,S1 _ _ h1,T.cl_Queue,T.f_most,rfl,_,_,rfl,rfl,qq H1 S1⟩
theorem dJ:FnScope ["self","some","name"] ["self"] (aH pC):=‹0›
set_option maxHeartbeats 1000000 in
theorem Ap {f:Addr} {fd:FuncData} (F:Fun K "begin_segment" "Queue.begin_segment" pC f fd) (T:TxtQ K mg A) (c_segment_name:‹2›) (c_row_bytes:‹8› "row_bytes" 4 ["row"] (eF A.badRow)) (mD_make:‹9› A.disk "make" 3 ["self","name"] (nG A.disk A.badName A.there A.stopped)) (mD_add:‹9› A.disk "add" 4 ["self","name","some"] (oR A.disk A.badName A.missing A.badRow A.stopped)):‹7› 5 f fd ["self"] (mI A):=by
 refine F.okX dJ (fun vs H Q E h=>?_) (fun cdv A' outer s H vs Q E hr h=>?_)
 ·obtain⟨L,q,wr,rfl,_⟩:=h
  rfl
 ·obtain⟨L,q,wr,rfl,hq,hl,hn,hno,hf,hz,u0,u1,qq⟩:=h
  refine⟨_,@aA _ _ _ _ _ (@a8 _ _ (1) _ _ _ _ dJ.nd (by rfl) (by first | exact Or.inl (by rfl) | exact Or.inr (by rfl)) (@bB _ _ _ _ _ _ _ _ _ _ _ c_row_bytes ‹12› bK (@dE _ _ _ _ _ _ _ (@cG _ _ _ _ _ (@aO _ _ _ _ _ _ _ (@dW _ _ _ _) (@cV _ _ _ _ _ _ _ (@dD _ _ _ _ _ ‹27› (by rfl)) (@dE _ _ _ _ _ _ _ (@cG _ _ _ _ _ (@aB _)) (@aB _))))) (@aB _)) ⋯ ⋯ ⋯ ⋯) ⋯ ⋯) (@aA _ _ _ _ _ (@a8 _ _ (2) _ _ _ _ dJ.nd (by rfl) (by first | exact Or.inl (by rfl) | exact Or.inr (by rfl)) (@bB _ _ _ _ _ _ _ _ _ _ _ c_segment_name ‹12› aW (@dO _ _ _ _ _ _ _ _ (@bO _ _ _ _ _ _ _ _ cZ ‹27› ‹21›) (@aB _)) ⋯ ⋯ ⋯ ⋯) ⋯ ⋯) (@aA _ _ _ _ _ (aQ (cB mD_make T.cl_Disk ‹12› bK (dD (pv 0) (by rfl)) (aD (pv 2) aB))) (@aA _ _ _ _ _ (aQ (cB mD_add T.cl_Disk ‹12› bK (dD (pv 0) (by rfl)) (aD (pv 2) (aD (pv 1) aB)))) (@aC _ _ _ (@lQ _ _ _ _ _ _ _ _ _ _ ‹17› ‹21› A7))))),?_⟩
  obtain⟨dx,h1⟩:=hq.self
  obtain⟨db,h2⟩:=hq.book.self
  refine⟨_,rfl,L.qu,_,dx,_,_,rfl,h1,T.cl_Queue,T.f_book,rfl,L.bk,_,db,_,_,rfl,h2,T.cl_Book,T.f_upcoming,rfl,cC,fun p0 hp0=>⟨cC,fun p1 hp1=>?_⟩⟩
  have S1:=aJ (o:=.tup []) hp0
  have g0:upd H p0 (.tup []) p0=some (.tup []):=aE
  generalize upd H p0 (.tup [])=H1 at S1 g0 hp1 ⊢
  have S2:=aJ (o:=.tup [.str "from",.int q.B.up,.ref p0]) hp1
  have g1:upd H1 p1 (.tup [.str "from",.int q.B.up,.ref p0]) p1=some (.tup [.str "from",.int q.B.up,.ref p0]):=aE
  generalize upd H1 p1 (.tup [.str "from",.int q.B.up,.ref p0])=H2 at S2 g1 ⊢
  have fo:=Bb u0 u1
  refine eA (wC (r:=("from",q.B.up,[])) ?_ fo fun pb H3 S3 g3=>?_)
  ·unfold cS gN
   simp only[Den,aU]
   exact⟨p1,_,rfl,g1,_,_,rfl,rfl,_,_,rfl,rfl,_,_,rfl,⟨p0,[],rfl,S2 _ _ g0,rfl⟩,rfl⟩
  have S03:=S1.trans (S2.trans S3)
  have hq3:=hq.same S03
  refine⟨_,rfl,L.qu,_,dx,_,_,rfl,S03 _ _ h1,T.cl_Queue,T.f_last,rfl,_,_,rfl,rfl,q.last+1,rfl,hn,?_⟩
  obtain⟨dd,h4⟩:=hq3.disk.self
  refine⟨_,rfl,L.qu,_,dx,_,_,rfl,S03 _ _ h1,T.cl_Queue,T.f_disk,rfl,L.dk,dd,_,rfl,h4,rfl,_,rfl,eA (yM hq3.disk hl hn hf hno fun kvs' H4 f4 w4 hD4=>?_)⟩
  obtain⟨hq4,st4⟩:=hq3.toDisk f4 w4 hD4
  obtain⟨dx4,h14⟩:=hq4.self
  obtain⟨dd4,h44⟩:=hq4.disk.self
  have hlk:aI (mkN q.D (aN (q.last+1))).fs (aN (q.last+1))=some []:=by
   show aI (q.D.fs++[(aN (q.last+1),[])]) (aN (q.last+1))=some []
   rw[nX _ _ _ _ hno,if_pos rfl]
  refine⟨_,rfl,L.qu,_,dx4,_,_,rfl,h14,T.cl_Queue,T.f_disk,rfl,L.dk,dd4,_,rfl,h44,rfl,_,rfl,_,rfl,eA (wD hD4 rfl hn hlk (fun m bs hm=>?_) (st4.tup _ _ g3) (jU fo) (by rw[dM]; show 7<=100000; decide) fun H5 f5 hD5=>?_)⟩
  ·have hm:aI (q.D.fs++[(aN (q.last+1),[])]) m=some bs:=hm
   rw[nX _ _ _ _ hno]at hm
   split at hm
   ·cases hm
    exact Nat.zero_le _
   ·exact hz m bs hm
  obtain⟨hq5,st5⟩:=hq4.toDisk f5 (fun b h=>.inl h) hD5
  obtain⟨dx5,h15⟩:=hq5.self
  have hlen:(iR "from" q.B.up []).length=7:=by rw[dM]; rfl
  refine⟨_,rfl,L.qu,_,dx5,_,_,rfl,h15,T.cl_Queue,T.f_last,rfl,_,_,rfl,rfl,dx5,_,h15,by show 10<1000; decide,?_⟩
  obtain⟨hq6,st6⟩:=hq5.fields (dx:=dx5) (tX q) wr (by rw[hlen]; rfl) rfl rfl
  exact qq _ _ ((aF.step S03).trans (st4.trans (st5.trans st6))) hq6
theorem l6:FnScope ["self"] ["self"] (aH pA):=‹0›
set_option maxHeartbeats 1000000 in
theorem An {f:Addr} {fd:FuncData} (F:Fun K "drop_first" "Queue.drop_first" pA f fd) (T:TxtQ K mg A) (c_segment_name:‹2›) (mD_drop:‹9› A.disk "drop" 4 ["self","name"] (nJ A.disk A.badName A.missing A.stopped)):‹7› 5 f fd ["self"] (mG A):=by
 refine F.okX l6 (fun vs H Q E h=>?_) (fun cdv A' outer s H vs Q E hr h=>?_)
 ·obtain⟨L,q,wr,bs,rfl,_⟩:=h
  rfl
 ·obtain⟨L,q,wr,bs,rfl,hq,hl,hn,hb,qq⟩:=h
  refine⟨_,@aA _ _ _ _ _ (aQ (cB mD_drop T.cl_Disk ‹12› bK (dD (pv 0) (by rfl)) (cJ (bB c_segment_name ‹12› aW (cV (dD (pv 0) (by rfl)) aB)) aB))) (@aC _ _ _ (@lQ _ _ _ _ _ _ _ _ _ _ ‹17› ‹21› A7)),?_⟩
  obtain⟨dx,h1⟩:=hq.self
  obtain⟨dd,h4⟩:=hq.disk.self
  refine⟨_,rfl,L.qu,_,dx,_,_,rfl,h1,T.cl_Queue,T.f_disk,rfl,L.dk,dd,_,rfl,h4,rfl,_,rfl,L.qu,_,dx,_,_,rfl,h1,T.cl_Queue,T.f_first,rfl,q.first,rfl,hn,eA (yN hq.disk hl hn hb fun kvs' H4 f4 w4 hD4=>?_)⟩
  obtain⟨hq4,st4⟩:=hq.toDisk f4 w4 hD4
  obtain⟨dx4,h14⟩:=hq4.self
  refine⟨_,rfl,L.qu,_,dx4,_,_,rfl,h14,T.cl_Queue,T.f_first,rfl,_,_,rfl,rfl,dx4,_,h14,by show 10<1000; decide,?_⟩
  obtain⟨hq6,st6⟩:=hq4.fields (dx:=dx4) { q with D:=zR q.D (aN q.first),first:=q.first+1 } wr rfl rfl rfl
  exact qq _ _ (st4.trans st6) hq6
end
end Qh
end
section
namespace Qh
open PySem L2
theorem nS {L:Pl} {q:Qs} {a b:Bool}:cA "writing" (.bl b) (quF L q a)=quF L q b:=rfl
theorem AZ (rs:List Rw) (r:Rw):cH (rs++[r])=cH rs++iR r.1 r.2.1 r.2.2:=by
 unfold cH
 rw[List.map_append,List.flatten_append]
 simp
theorem u8 {rs:List Rw} (h:∀ r∈rs,aZ (cS r)=true):(cH rs).length<=68 * rs.length:=by
 unfold cH
 induction rs with
 | nil=>exact Nat.le_refl _
 | cons r rs ih=>
  rw[List.map_cons,List.flatten_cons,List.length_append,dM,List.length_cons]
  have h1:=ih (fun x hx=>h x (List.mem_cons_of_mem _ hx))
  have h2:=pG (h r List.mem_cons_self)
  omega
theorem yV {rs:List Rw} (h:∀ r∈rs,aZ (cS r)=true):∀ b∈cH rs,0<=b/\b<=255:=by
 intro b hb
 unfold cH at hb
 rw[List.mem_flatten]at hb
 obtain⟨l,hl,hb⟩:=hb
 rw[List.mem_map]at hl
 obtain⟨r,hr,rfl⟩:=hl
 exact jU (h r hr) b hb
theorem j9 (q:Qs) (h:aI q.D.fs (aN (q.last+1))=none) (m:Str):aI (tX q).D.fs m=if m=aN (q.last+1) then some (iR "from" q.B.up []) else aI q.D.fs m:=by
 show aI (cX (q.D.fs++[(aN (q.last+1),[])]) (aN (q.last+1)) (iR "from" q.B.up [])) m=_
 rw[sX,nX _ _ _ _ h,nX _ _ _ _ h]
 by_cases z:m=aN (q.last+1)
 ·rw[if_pos z,if_pos z,if_pos rfl]
  rfl
 ·rw[if_neg z,if_neg z,if_neg z]
structure NOk (q:Qs):Prop where
 left:q.D.left=none
 last:cR q.last
 here:aI q.D.fs (aN q.last)=some (gF q)
 len:∀ n bs,aI q.D.fs n=some bs->bs.length<=100000
theorem tE {q:Qs} {bs:List Int} (h:aI q.D.fs (aN q.last)=some bs):gF q=bs:=by
 unfold gF
 rw[h]
 rfl
theorem WOk.next {q:Qs} {k:Nat} (h:WOk q k):NOk (a7 q)/\(a7 q).B=q.B:=by
 unfold a7
 split
 ·refine⟨⟨rfl,h.nxt,?_,fun n bs e=>?_⟩,rfl⟩
  ·have e:=j9 q h.new (aN (q.last+1))
   rw[if_pos rfl]at e
   have e2:gF (tX q)=iR "from" q.B.up []:=tE e
   rw[e2]
   exact e
  ·rw[j9 q h.new]at e
   split at e
   ·cases e
    rw[dM]
    decide
   ·exact h.len n bs e
 ·obtain⟨bs,hb⟩:=h.here
  exact⟨⟨h.left,h.last,by rw[tE hb]; exact hb,h.len⟩,rfl⟩
section
variable {P:Program} {w:World} {K:PySem.W.Frag} {mg:Str->Option Value} {base:Heap} {A:Ad}
theorem dZ:FnScope ["self","rows","some","row"] ["self","rows"] (aH o6):=‹0›
set_option maxHeartbeats 2000000 in
theorem Aj {f:Addr} {fd:FuncData} (F:Fun K "write" "Queue.write" o6 f fd) (T:TxtQ K mg A) (c_segment_name:‹2›) (c_row_bytes:‹8› "row_bytes" 4 ["row"] (eF A.badRow)) (c_make_good:‹8› "make_good" 6 ["disk"] (gI A)) (mD_add:‹9› A.disk "add" 4 ["self","name","some"] (oR A.disk A.badName A.missing A.badRow A.stopped)) (mB_enter:‹9› A.book "enter" 3 ["self","row","segment"] (nI A.book A.broken)) (mQ_is_last_full:‹9› A.queue "is_last_full" 5 ["self"] (oN A)) (mQ_begin_segment:‹9› A.queue "begin_segment" 5 ["self"] (mI A)):‹7› 7 f fd ["self","rows"] (gY A):=by
 refine F.okX dZ (fun vs H Q E h=>?_) (fun cdv A' outer s H vs Q E hr h=>?_)
 ·obtain⟨L,q,a,rs,B',rfl,_⟩:=h
  rfl
 ·obtain⟨L,q,a,rs,B',rfl,hq,ok,na,da,hrs,hfo,qq⟩:=h
  refine⟨_,@aA _ _ _ _ _ (@a8 _ _ (2) _ _ _ _ dZ.nd (by rfl) (by first | exact Or.inl (by rfl) | exact Or.inr (by rfl)) (@cG _ _ _ _ _ (@aB _)) ⋯ ⋯) (@aA _ _ _ _ _ (@jW _ _ _ _ _ _ _ _ (qH fM) (by rfl) (@cP _ K _ _ _ ‹18› ⋯) (@bW _ _ (3) _ dZ.nd (by rfl) (by first | exact Or.inl (by rfl) | exact Or.inr (by rfl)) ⋯) (@aC _ _ _ (@a8 _ _ (2) _ _ _ _ dZ.nd (by rfl) (by first | exact Or.inl (by rfl) | exact Or.inr (by rfl)) (@bO _ _ _ _ _ _ _ _ nV ‹22› (@bB _ _ _ _ _ _ _ _ _ _ _ c_row_bytes ‹12› bK (@aD _ _ _ _ _ _ ‹23› (@aB _)) ⋯ ⋯ ⋯ ⋯)) ⋯ ⋯)) ⋯) (@aA _ _ _ _ _ (@a9 _ _ _ _ _ _ _ _ (@cY _ _ _ ‹27› ⋯) (@aC _ _ _ (aQ (bB c_make_good ‹12› bK (cV (dD (pv 0) (by rfl)) aB)))) (@aP _)) (@aA _ _ _ _ _ (@cT _ _ _ _ _ _ _ _ ‹17› (@BU _ _ _ _) (by rfl)) (@aA _ _ _ _ _ (@a9 _ _ _ _ _ _ _ _ (@cY _ _ _ (@cU _ _ _ _ _ _ _ _ _ _ _ _ mQ_is_last_full T.cl_Queue ‹12› bK ‹17› ⋯) ⋯) (@aC _ _ _ (aQ (cU mQ_begin_segment T.cl_Queue ‹12› bK (pv 0)))) (@aP _)) (@aA _ _ _ _ _ (aQ (cB mD_add T.cl_Disk ‹12› bK (dD (pv 0) (by rfl)) (cJ (bB c_segment_name ‹12› aW (cV (dD (pv 0) (by rfl)) aB)) (aD (pv 2) aB)))) (@aA _ _ _ _ _ (@cT _ _ _ _ _ _ _ _ ‹17› (@BU _ _ _ _) (by rfl)) (@aC _ _ _ (@jW _ _ _ _ _ _ _ _ (qH fM) (by rfl) (@cP _ K _ _ _ ‹18› ⋯) (@bW _ _ (3) _ dZ.nd (by rfl) (by first | exact Or.inl (by rfl) | exact Or.inr (by rfl)) ⋯) (@aC _ _ _ (aQ (cB mB_enter T.cl_Book ‹12› bK (dD (pv 0) (by rfl)) (aD (pv 3) (cV (dD (pv 0) (by rfl)) aB))))) ⋯)))))))),?_⟩
  have da':=da
  simp only[Den]at da'
  obtain⟨_,xs,e,ga,dxs⟩:=da'
  cases e
  have lx:=dxs.length
  rw[List.length_map]at lx
  refine⟨cC,fun p0 hp0=>?_⟩
  have S1:=aJ (o:=.tup []) hp0
  have g0:upd H p0 (.tup []) p0=some (.tup []):=aE
  generalize upd H p0 (.tup [])=H1 at S1 g0 ⊢
  refine⟨_,rfl,a,rfl,⟨_,SqL.of (S1 _ _ ga)⟩,?_⟩
  refine fB (cO (K:=K) (SqL.of (S1 _ _ ga))) (fun i σ H'=>aF H1 H'/\∃ pa z3,H' pa=some (.tup ((cH (rs.take i)).map V.int))/\σ = [some (.ref L.qu),some (.ref a),some (.ref pa),z3]) ?i0 (fun _ _ _ h=>h.1) ?_ ?_
  case i0=>exact⟨aF.refl _,p0,none,g0,rfl⟩
  ·rintro i x σ H5 H6 hi ⟨s5,pa,z3,g5,rfl⟩ s6 hx
   obtain⟨d,hd,dn⟩:=dxs.get hx
   rw[List.getElem?_map]at hd
   cases ej:rs[i]? with
   | none=>rw[ej]at hd; cases hd
   | some r=>
    rw[ej]at hd
    cases (Option.some.inj hd:cS r=d)
    have hr':=hrs r (List.mem_of_getElem? ej)
    have et:rs.take (i+1)=rs.take i++[r]:=by
     rw[List.take_succ,ej]
     rfl
    refine⟨_,rfl,_,rfl,eA (wC (dn.same (S1.trans (s5.trans s6))) hr' fun pb H7 S7 g7=>?_)⟩
    refine⟨pa,pb,_,_,rfl,rfl,S7 _ _ (s6 _ _ g5),g7,?_,fun p8 H8 S8 g8=>?_⟩
    ·have h1:=u8 (rs:=rs.take i) (fun r h=>hrs r (List.mem_of_mem_take h))
     have h2:=pG hr'
     have h3:=ok.ents
     rw[List.length_map,List.length_map,dM]
     rw[List.length_take]at h1
     refine Nat.le_trans (m:=100000) ?_ (by decide)
     omega
    ·refine⟨s5.trans (s6.trans (S7.trans S8)),p8,_,?_,rfl⟩
     rw[et,AZ,List.map_append]
     exact g8
  rintro σ H2 ⟨S2,pa,z3,g2,rfl⟩
  rw[show rs.take xs.length=rs by rw[lx,List.take_length]]at g2
  have S02:=S1.trans S2
  have hq2:=hq.same S02
  obtain⟨dx,h1⟩:=hq2.self
  obtain⟨bs,hbs⟩:=ok.here
  refine⟨_,rfl,L.qu,_,dx,_,_,rfl,h1,T.cl_Queue,T.f_writing,rfl,_,rfl,aV (bE rfl ?_)⟩
  refine⟨_,rfl,L.qu,_,dx,_,rfl,h1,T.cl_Queue,T.f_writing,by show 10<1000; decide,?_⟩
  rw[nS]
  obtain⟨hq3,st3⟩:=hq2.fields (dx:=dx) q true rfl rfl rfl
  generalize upd H2 L.qu (.ins A.queue dx (quF L q true))=H3 at hq3 st3 ⊢
  obtain⟨dx3,h13⟩:=hq3.self
  have st03:Step L L H H3:=(aF.step S02).trans st3
  have gp3:=st3.tup _ _ g2
  obtain⟨nok,nB⟩:=ok.next
  dsimp only
  refine C9 (fun σ' H'=>σ'=[some (.ref L.qu),some (.ref a),some (.ref pa),z3]/\H' pa=some (.tup ((cH rs).map V.int))/\∃ L4,Step L L4 H H'/\QueueW A H' L4 (a7 q) true) (fun n hn=>?_) ?_
  ·refine⟨_,rfl,L.qu,dx3,_,rfl,h13,rfl,L,q,true,bs,rfl,hq3,ok.last,hbs,fun H4 S4=>⟨_,rfl,?_⟩⟩
   have hq4:=hq3.same S4
   obtain⟨dx4,h14⟩:=hq4.self
   have el:gF q=bs:=tE hbs
   cases hb:vR q bs with
   | true=>
    refine aT ?_
    have hu:q.B.up<=999999:=by
     unfold vR at hb
     simp only[Bool.and_eq_true,Bool.not_eq_true',decide_eq_false_iff_not]at hb
     omega
    refine⟨_,rfl,L.qu,dx4,_,rfl,h14,rfl,L,q,true,rfl,hq4,ok.left,ok.nxt,ok.new,Nat.lt_trans ok.files (by decide),ok.len,ok.up,hu,fun L5 H5 st5 hq5=>?_⟩
    refine hn _ _ ⟨rfl,st5.tup _ _ (S4 _ _ gp3),L5,st03.trans ((aF.step S4).trans st5),?_⟩
    unfold a7
    rw[el,if_pos hb]
    exact hq5
   | false=>
    refine aV (bE rfl (hn _ _ ⟨rfl,S4 _ _ gp3,L,st03.trans (aF.step S4),?_⟩))
    unfold a7
    rw[el,if_neg (by rw[hb]; decide)]
    exact hq4
  rintro _ H5 ⟨rfl,gp5,L5,st5,hq5⟩
  have hent:(a7 q).B.es.length+(a7 q).B.parts.length+rs.length<900:=by rw[nB]; exact ok.ents
  generalize a7 q=r at *
  obtain⟨dx5,h15⟩:=hq5.self
  obtain⟨dd5,h45⟩:=hq5.disk.self
  rw[st5.qu]at h15
  have lb:(cH rs).length<=100000:=by
   have h1:=u8 hrs
   have h3:=ok.ents
   omega
  refine⟨_,rfl,L.qu,_,dx5,_,_,rfl,h15,T.cl_Queue,T.f_disk,rfl,L5.dk,dd5,_,rfl,h45,rfl,_,rfl,L.qu,_,dx5,_,_,rfl,h15,T.cl_Queue,T.f_last,rfl,r.last,rfl,nok.last,_,rfl,eA (wD hq5.disk nok.left nok.last nok.here nok.len gp5 (yV hrs) lb fun H6 f6 hD6=>?_)⟩
  obtain⟨hq6,st6⟩:=hq5.toDisk f6 (fun b h=>.inl h) hD6
  obtain⟨dx6,h16⟩:=hq6.self
  have h16:H6 L5.qu=some (.ins A.queue dx6 (quF L5 { r with D:=kM r.D (aN r.last) (gF r++cH rs) (cH rs).length } true)):=h16
  have h16':=h16
  rw[st5.qu]at h16'
  refine⟨_,rfl,L.qu,_,dx6,_,rfl,h16',T.cl_Queue,T.f_writing,by show 10<1000; decide,?_⟩
  rw[nS]
  have hq6:QueueW A H6 L5 { r with D:=kM r.D (aN r.last) (gF r++cH rs) (cH rs).length } true:=hq6
  have st6:Step L5 L5 H5 H6:=st6
  obtain⟨hq7,st7⟩:=hq6.fields (dx:=dx6) { r with D:=kM r.D (aN r.last) (gF r++cH rs) (cH rs).length } false rfl rfl rfl
  rw[st5.qu]at hq7 st7
  generalize upd H6 L.qu (.ins A.queue dx6 (quF L5 { r with D:=kM r.D (aN r.last) (gF r++cH rs) (cH rs).length } false))=H7 at hq7 st7 ⊢
  have st07:Step L L5 H H7:=st5.trans (st6.trans st7)
  have ga7:=st07.frm _ _ ga na
  refine⟨_,rfl,a,rfl,⟨_,SqL.of ga7⟩,?_⟩
  refine fB (H0:=fun c=>if c=a then some (.lst xs) else none) (cO (K:=K) (SqL.of (if_pos rfl))) (fun j σ H'=>∃ Lj Bj z3,Step L Lj H H'/\QueueW A H' Lj (yI r (cH rs) Bj) false/\Bj.es.length+Bj.parts.length<=r.B.es.length+r.B.parts.length+j/\dF r.last r.B rs=dF r.last Bj (rs.drop j)/\σ = [some (.ref L.qu),some (.ref a),some (.ref pa),z3]) ?j0 ?kp ?_ ?_
  case j0=>exact⟨L5,r.B,_,st07,hq7,Nat.le_refl _,rfl,rfl⟩
  case kp=>
   rintro j σ H' ⟨Lj,Bj,z,st,_⟩ b o eb
   by_cases y:b=a
   ·subst y
    have eb:some (HO.lst xs)=some o:=by simpa using eb
    rw[<- eb]
    exact st.frm _ _ ga na
   ·have eb:none=some o:=by simpa [y] using eb
    cases eb
  ·rintro j y σ G1 G2 hj ⟨Lj,Bj,z,stj,hqj,hle,hfj,rfl⟩ sG hy
   obtain⟨d,hd,dn⟩:=dxs.get hy
   rw[List.getElem?_map]at hd
   cases ej:rs[j]? with
   | none=>rw[ej]at hd; cases hd
   | some ro=>
    rw[ej]at hd
    cases (Option.some.inj hd:cS ro=d)
    have jL:j<rs.length:=(List.getElem?_eq_some_iff.mp ej).1
    have edj:rs.drop j=ro::rs.drop (j+1):=by
     rw[List.drop_eq_getElem_cons jL,(List.getElem?_eq_some_iff.mp ej).2]
    rw[edj]at hfj
    have efold:dF r.last Bj (ro::rs.drop (j+1))=match dG Bj ro.1 ro.2.1 ro.2.2 r.last with | none=>none | some B'=>dF r.last B' (rs.drop (j+1)):=rfl
    obtain⟨t,b,rfl,gt,gb⟩:=nQ dn
    have st2:=stj.trans (aF.step sG)
    have dn':Den G2 (gN ro.1 ro.2.1 ro.2.2) (.ref t):=Bh st2.tup (qP _ _ _) dn
    have hq2:=hqj.same sG
    obtain⟨dxj,h1j⟩:=hq2.self
    obtain⟨dbj,h2j⟩:=hq2.book.self
    rw[stj.qu]at h1j
    refine⟨_,rfl,L.qu,_,dxj,_,_,rfl,h1j,T.cl_Queue,T.f_book,rfl,Lj.bk,dbj,_,rfl,h2j,rfl,_,rfl,_,rfl,L.qu,_,dxj,_,_,rfl,h1j,T.cl_Queue,T.f_last,rfl,Lj.bk,Lj.de,Lj.dp,t,Bj,ro.1,ro.2.1,r.last,ro.2.2,rfl,hq2.book,dn',hrs ro (List.mem_of_getElem? ej),by omega,fun B2 hB2 dq H8 f8 hdq hB8=>?_,fun hno=>?_⟩
    ·obtain⟨hq8,st8⟩:=hq2.toBook f8 hdq hB8
     refine⟨_,B2,_,st2.trans st8,hq8,?_,?_,rfl⟩
     ·have:=tP hB2
      omega
     ·rw[hfj,efold,hB2]
    ·rw[hfj,efold,hno]at hfo
     cases hfo
  ·rintro σ H8 ⟨Lj,Bj,z,stj,hqj,hle,hfj,rfl⟩
   rw[lx,List.drop_of_length_le (Nat.le_refl _)]at hfj
   rw[hfj]at hfo
   cases (Option.some.inj hfo:Bj=B')
   exact qq Lj H8 stj hqj
end
end Qh
end
section
namespace Qh
open PySem L2
noncomputable abbrev wX:Stmt:=bI (top 52) 1
theorem qX {A:Ad} {H:Hp} {L:Pl} {q:Qs} {wr:Bool} (h:QueueW A H L q wr) {b:Addr} (hb:mZ L b):∃ o,H b=some o:=by
 obtain⟨dx,h1⟩:=h.self
 obtain⟨hk,h2,_⟩:=h.held
 obtain⟨db,h3⟩:=h.book.self
 obtain⟨kb,h4,_⟩:=h.book.ent
 obtain⟨ps,h5,_⟩:=h.book.par
 rcases hb with z | z | (z | z | z) | z
 ·exact⟨_,by rw[z]; exact h1⟩
 ·exact⟨_,by rw[z]; exact h2⟩
 ·exact⟨_,by rw[z]; exact h3⟩
 ·exact⟨_,by rw[z]; exact h4⟩
 ·exact⟨_,by rw[z]; exact h5⟩
 ·exact j3 h.disk z
noncomputable def Ea (d:PyData):Bool:=aZ (.tuple [.str "put",.int 0,d])
noncomputable def F5 (d:PyData):Prop:=∀ bs,d = .tuple bs->bs.length<=1000
theorem DD {k:Str} {n:Int} {body:List Int} (hk:k = "put"\/k = "part") (h0:0<=n) (h1:n<=999999) (hb:fV body) (hl:body.length<=60):aZ (cS (k,n,body))=true:=by
 have hc:cD.contains k=true:=by rcases hk with rfl | rfl <;> decide +kernel
 show (cD.contains k && (bH 0 999999 (.int n) && (cI (.tuple (body.map .int)) && gG k (bD (.tuple (body.map .int))))))=true
 have e1:bH 0 999999 (.int n)=true:=by
  simp only[bH,Bool.and_eq_true,decide_eq_true_eq]
  exact⟨h0,h1⟩
 have e2:cI (.tuple (body.map .int))=true:=qZ hb
 have e3:gG k body=true:=by
  unfold gG
  rw[if_pos hk]
  exact decide_eq_true hl
 rw[hc,e1,e2,eN,e3]
 rfl
theorem Ct {d:PyData} (h:Ea d=true):∃ body:List Int,d = .tuple (body.map .int)/\fV body/\body.length<=60:=by
 obtain⟨k,n,bs,e,hk,_,_,hb,hf⟩:=mY h
 injection e with e
 injection e with e1 e
 injection e with _ e
 injection e with e3 e
 injection e1 with e1
 subst e1
 have hb':cI (.tuple bs)=true:=hb
 refine⟨bD (.tuple bs),?_,nC hb',?_⟩
 ·rw[e3]
  have:bs=(bD (.tuple bs)).map .int:=by
   rw[List.all_eq_true]at hb
   show bs=(bs.map _).map _
   rw[List.map_map]
   conv=>lhs; rw[<- List.map_id bs]
   apply List.map_congr_left
   intro x hx
   have:=hb x hx
   cases x with
   | int i=>rfl
   | _=>simp [bH]at this
  rw[<- this]
 ·unfold gG at hf
  rw[if_pos (.inl rfl)]at hf
  exact of_decide_eq_true hf
noncomputable def DS (q:Qs) (body:List Int) (B':Bk):Qs:=yI (a7 q) (cH [("put",q.B.up,body)]) B'
noncomputable def iU (A:Ad):Sp:=fun vs H Q E=>∃ (L:Pl) (q:Qs) (v:V) (d:PyData),vs=[.ref L.qu,v]/\QueueW A H L q false/\Den H d v/\F5 d/\(Ea d=false->∀ H',aF H H'->E (.ref A.badBody) none H')/\
 (∀ body:List Int,d = .tuple (body.map .int)->fV body->body.length<=60->WOk q 1/\q.B.up<=999999/\∃ B',dF (a7 q).last (a7 q).B [("put",q.B.up,body)]=some B'/\∀ L' H',Step L L' H H'->QueueW A H' L' (DS q body B') false->Q (.int q.B.up) H')
section
variable {P:Program} {w:World} {K:PySem.W.Frag} {mg:Str->Option Value} {base:Heap} {A:Ad}
theorem nM:FnScope ["self","body","number"] ["self","body"] (aH wX):=‹0›
set_option maxHeartbeats 1000000 in
theorem Df {f:Addr} {fd:FuncData} (F:Fun K "put" "Queue.put" wX f fd) (T:TxtQ K mg A) (c_check_body:‹8› "check_body" 4 ["body"] (iN A)) (mQ_write:‹9› A.queue "write" 7 ["self","rows"] (gY A)):‹7› 8 f fd ["self","body"] (iU A):=by
 refine F.okX nM (fun vs H Q E h=>?_) (fun cdv A' outer s H vs Q E hr h=>?_)
 ·obtain⟨L,q,v,d,rfl,_⟩:=h
  rfl
 ·obtain⟨L,q,v,d,rfl,hq,dv,hz,qe,qg⟩:=h
  refine⟨_,@aA _ _ _ _ _ (aQ (bB c_check_body ‹12› bK (aD (pv 1) aB))) (@aA _ _ _ _ _ (@a8 _ _ (2) _ _ _ _ nM.nd (by rfl) (by first | exact Or.inl (by rfl) | exact Or.inr (by rfl)) (@dD _ _ _ _ _ ‹27› (by rfl)) ⋯ ⋯) (@aA _ _ _ _ _ (aQ (cB mQ_write T.cl_Queue ‹12› bK (pv 0) (xD (iS (dE (cG (aO dW (aD (pv 2) (aD (pv 1) aB)))) aB)) aB))) (@aC _ _ _ (@bA _ _ _ _ ‹22›)))),?_⟩
  refine⟨_,rfl,v,d,rfl,dv,(fun bs e=>Nat.le_trans (hz bs e) (by decide)),fun hg H1 S1=>?_,fun hb H1 S1=>qe hb H1 S1⟩
  obtain⟨body,rfl,hb,hl⟩:=Ct hg
  obtain⟨ok,hu,B',hfo,qq⟩:=qg body rfl hb hl
  have hrow2:aZ (cS ("put",q.B.up,body))=true:=DD (.inl rfl) ok.up hu hb hl
  have hq1:=hq.same S1
  obtain⟨dx,h1⟩:=hq1.self
  obtain⟨db,h2⟩:=hq1.book.self
  refine⟨_,rfl,L.qu,_,dx,_,_,rfl,h1,T.cl_Queue,T.f_book,rfl,L.bk,_,db,_,_,rfl,h2,T.cl_Book,T.f_upcoming,rfl,?_⟩
  refine⟨_,rfl,L.qu,dx,_,rfl,h1,rfl,_,rfl,_,rfl,cC,fun p1 hp1=>⟨cC,fun p2 hp2=>?_⟩⟩
  have S2:=aJ (o:=.tup [.str "put",.int q.B.up,v]) hp1
  have g1:upd H1 p1 (.tup [.str "put",.int q.B.up,v]) p1=some (.tup [.str "put",.int q.B.up,v]):=aE
  generalize upd H1 p1 (.tup [.str "put",.int q.B.up,v])=H2 at S2 g1 hp2 ⊢
  have S3:=aJ (o:=.lst [.ref p1]) hp2
  have g2:upd H2 p2 (.lst [.ref p1]) p2=some (.lst [.ref p1]):=aE
  generalize upd H2 p2 (.lst [.ref p1])=H3 at S3 g2 ⊢
  have S13:=S2.trans S3
  have hq3:=hq1.same S13
  refine⟨L,q,p2,[("put",q.B.up,body)],B',rfl,hq3,ok,fun z=>?_,?_,fun r hr'=>?_,hfo,fun L' H' st hq'=>⟨_,rfl,qq L' H' ((aF.step (S1.trans S13)).trans st) hq'⟩⟩
  ·obtain⟨o,e⟩:=qX (hq1.same S2) z
   rw[e]at hp2
   cases hp2
  ·simp only[Den,List.map_cons,List.map_nil,aU]
   refine⟨p2,_,rfl,g2,_,_,rfl,?_,rfl⟩
   unfold cS gN
   simp only[Den,aU]
   refine⟨p1,_,rfl,S3 _ _ g1,_,_,rfl,rfl,_,_,rfl,rfl,_,_,rfl,?_,rfl⟩
   have:=dv.same (S1.trans S13)
   simp only[Den]at this
   exact this
  ·rcases List.mem_cons.mp hr' with rfl | z
   ·exact hrow2
   ·cases z
end
end Qh
end
section
namespace Qh
open PySem L2
noncomputable abbrev rT:Stmt:=bI (top 52) 3
noncomputable abbrev pB:Stmt:=bI (top 52) 18
noncomputable def mU (q:Qs) (ms:List Int):List Int:=(ms.filter (lE q.hs)).filter fun n=>ltB (jC q.B.es n) q.tries
noncomputable def GN (q:Qs) (n:Int) (x:Str) (B':Bk):Qs:={ yI (a7 q) (cH [("out",n,[])]) B' with hs:=q.hs++[(n,(x,q.now))] }
noncomputable def gQ (A:Ad):Sp:=fun vs H Q _=>∃ (L:Pl) (q:Qs) (x:Str) (ms:List Int),vs=[.ref L.qu,.str x]/\QueueW A H L q false/\q.B.es.length<500/\q.hs.length<900/\cN lD 6 (.str x)=true/\(x.length<=1000/\kF x=true)/\List.Perm ms (q.B.es.map (·.1))/\ms.Pairwise (· <= ·)/\
 (mU q ms=[]->∀ H',aF H H'->Q .non H')/\
 (∀ n r,mU q ms=n::r->WOk q 1/\0<=n/\n<=999999/\∃ B' e,dF (a7 q).last (a7 q).B [("out",n,[])]=some B'/\dQ B'.es n=some e/\∀ p L' H',Step L L' H H'->QueueW A H' L' (GN q n x B') false->Den H' (zG n e) (.ref p)->Q (.ref p) H')
noncomputable def mH (A:Ad):Sp:=fun vs H Q _=>∃ (L:Pl) (q:Qs) (x:Str) (n tm:Int),vs=[.ref L.qu,.str x,.int n]/\QueueW A H L q false/\cN lD 6 (.str x)=true/\(x.length<=1000/\kF x=true)/\0<=n/\n<=999999/\fA q.hs n=some (x,tm)/\∀ H',aF H H'->Q .non H'
theorem Cj (ns:List Int):(ns.map V.int).all mD=true:=by
 rw[List.all_map]
 exact List.all_eq_true.mpr fun _ _=>rfl
theorem Dx (n:Int) (ns:List Int):inV (.int n) (ns.map V.int)=decide (n∈ns):=by
 unfold inV
 rw[List.any_map]
 by_cases h:n∈ns
 ·rw[decide_eq_true h,List.any_eq_true]
  exact⟨n,h,beq_self_eq_true n⟩
 ·rw[decide_eq_false h,<- Bool.not_eq_true,List.any_eq_true]
  rintro ⟨x,hx,e⟩
  have e:(x == n)=true:=e
  rw[beq_iff_eq]at e
  rw[e]at hx
  exact h hx
theorem Br {k:Str} {n:Int} (hk:k = "out"\/k = "new"\/k = "done") (h0:0<=n) (h1:n<=999999):aZ (cS (k,n,[]))=true:=by
 have e1:bH 0 999999 (.int n)=true:=by
  simp only[bH,Bool.and_eq_true,decide_eq_true_eq]
  exact⟨h0,h1⟩
 show (cD.contains k && (bH 0 999999 (.int n) && (cI (.tuple []) && gG k (bD (.tuple [])))))=true
 rw[e1]
 rcases hk with rfl | rfl | rfl <;> decide +kernel
theorem QueueW.toHeld {H:Hp} {L:Pl} {q:Qs} {wr:Bool} {A:Ad} (h:QueueW A H L q wr) {hk':List (Key × V)} {hs':List (Int × (Str × Int))} (r:HoR H hs' hk'):QueueW A (upd H L.hd (.dK hk')) L { q with hs:=hs' } wr/\Step L L H (upd H L.hd (.dK hk')):=by
 obtain⟨dx,h1⟩:=h.self
 obtain⟨hk,h2,h3⟩:=h.held
 have t:gC H (upd H L.hd (.dK hk')):=lM h2 (fun xs z=>by cases z)
 refine⟨⟨⟨dx,by rw[aG (fun z=>h.a_hd.1 z.symm)]; exact h1⟩,h.disk.keep fun b o e hb=>?_,h.book.keep (fun b o e hb=>?_) t,⟨hk',aE,r.t t⟩,h.a_bd,h.a_qu,h.a_hd⟩,⟨rfl,rfl,fun b o e nb=>by rw[aG (fun z=>nb (.inr (.inl z)))]; exact e,fun b hb=>.inl hb,t⟩⟩
 ·rw[aG (fun z=>by rw[z]at hb; exact h.a_hd.2.2 hb)]
  exact e
 ·rw[aG (fun z=>by rw[z]at hb; exact h.a_hd.2.1 hb)]
  exact e
theorem i7 (q:Qs):(a7 q).now=q.now/\(a7 q).hs=q.hs/\(a7 q).tries=q.tries/\(a7 q).B=q.B:=by
 unfold a7
 split <;> exact⟨rfl,rfl,rfl,rfl⟩
section
variable {P:Program} {w:World} {K:PySem.W.Frag} {mg:Str->Option Value} {base:Heap} {A:Ad}
theorem iO:FnScope ["self","hand","numbers","number"] ["self","hand"] (aH rT):=‹0›
set_option maxHeartbeats 1000000 in
theorem CD {f:Addr} {fd:FuncData} (F:Fun K "take" "Queue.take" rT f fd) (T:TxtQ K mg A) (c_check_hand:‹8› "check_hand" 2 ["hand"] (fP A)) (mB_letter:‹9› A.book "letter" 1 ["self","number"] (lO A.book)) (mQ_ready:‹9› A.queue "ready" 4 ["self"] (oK A ltB)) (mQ_write:‹9› A.queue "write" 7 ["self","rows"] (gY A)):‹7› 8 f fd ["self","hand"] (gQ A):=by
 refine F.okX iO (fun vs H Q E h=>?_) (fun cdv A' outer s H vs Q E hr h=>?_)
 ·obtain⟨L,q,x,ms,rfl,_⟩:=h
  rfl
 ·obtain⟨L,q,x,ms,rfl,hq,hl,hh,hw,hz,perm,pw,qn,qs⟩:=h
  refine⟨_,@aA _ _ _ _ _ (aQ (bB c_check_hand ‹12› bK (aD (pv 1) aB))) (@aA _ _ _ _ _ (@a8 _ _ (2) _ _ _ _ iO.nd (by rfl) (by first | exact Or.inl (by rfl) | exact Or.inr (by rfl)) (@cU _ _ _ _ _ _ _ _ _ _ _ _ mQ_ready T.cl_Queue ‹12› aW ‹17› ⋯) ⋯ ⋯) (@aA _ _ _ _ _ (@a9 _ _ _ _ _ _ _ _ (@cF _ _ _ _ (@e8 _ K _ _ ‹22› ⋯ ⋯)) (@aC _ _ _ (@bA _ _ _ _ (@mW _ _ _))) (@aP _)) (@aA _ _ _ _ _ (@a8 _ _ (3) _ _ _ _ iO.nd (by rfl) (by first | exact Or.inl (by rfl) | exact Or.inr (by rfl)) (@c8 _ _ _ _ _ _ _ (eM K) ‹22› ‹21› (fun _ _=>rfl)) ⋯ ⋯) (@aA _ _ _ _ _ (aQ (cB mQ_write T.cl_Queue ‹12› bK (pv 0) (xD (iS (dE (cG (aO dW (aD (pv 3) (dE (cG aB) aB)))) aB)) aB))) (@aA _ _ _ _ _ (@jX _ _ _ _ _ _ _ _ _ (hu1 hr.units) ‹27› ‹23› (@cG _ _ _ _ _ (@aD _ _ _ _ _ _ ‹18› ‹44›)) (by rfl)) (@aC _ _ _ (@bA _ _ _ _ (@cB _ _ _ _ _ _ _ _ _ _ _ _ _ _ _ mB_letter T.cl_Book ‹12› aW ‹27› (@aD _ _ _ _ _ _ ‹23› (@aB _)) ⋯ ⋯ ⋯)))))))),?_⟩
  refine⟨_,rfl,.str x,.str x,rfl,by simp only[Den],(fun y e=>by injection e with e; rw[<- e]; exact hz),fun _ H1 S1=>?_,(fun z=>by rw[hw]at z; cases z)⟩
  have hq1:=hq.same S1
  obtain⟨dx,h1⟩:=hq1.self
  refine⟨_,rfl,L.qu,dx,_,rfl,h1,rfl,L,q,rfl,hq1,hl,fun ms' perm' pw' p H2 S2 hp g2=>?_⟩
  have em:ms'=ms:=fY (perm'.trans perm.symm) pw' pw
  subst em
  have g2:H2 p=some (.lst ((mU q ms').map V.int)):=g2
  cases er:mU q ms' with
  | nil=>
   rw[er]at g2
   exact⟨_,rfl,p,_,rfl,SqL.of g2,aT (qn er H2 (S1.trans S2))⟩
  | cons n r=>
   rw[er]at g2
   obtain⟨ok,n0,n9,B',e,hfo,hle,qq⟩:=qs n r er
   refine⟨_,rfl,p,_,rfl,SqL.of g2,aV (bE rfl ?_)⟩
   refine⟨_,rfl,p,_,_,.int n,rfl,rfl,SqL.of g2,bY (by decide) rfl,?_⟩
   have S12:=S1.trans S2
   have hq2:=hq.same S12
   obtain⟨dx2,h2⟩:=hq2.self
   refine⟨_,rfl,L.qu,dx2,_,rfl,h2,rfl,_,rfl,cC,fun p0 hp0=>⟨cC,fun p1 hp1=>⟨cC,fun p2 hp2=>?_⟩⟩⟩
   have V0:=aJ (o:=.tup []) hp0
   have v0:upd H2 p0 (.tup []) p0=some (.tup []):=aE
   generalize upd H2 p0 (.tup [])=H3 at V0 v0 hp1 hp2 ⊢
   have V1:=aJ (o:=.tup [.str "out",.int n,.ref p0]) hp1
   have v1:upd H3 p1 (.tup [.str "out",.int n,.ref p0]) p1=some (.tup [.str "out",.int n,.ref p0]):=aE
   generalize upd H3 p1 (.tup [.str "out",.int n,.ref p0])=H4 at V1 v1 hp2 ⊢
   have V2:=aJ (o:=.lst [.ref p1]) hp2
   have v2:upd H4 p2 (.lst [.ref p1]) p2=some (.lst [.ref p1]):=aE
   generalize upd H4 p2 (.lst [.ref p1])=H5 at V2 v2 ⊢
   have S25:=V0.trans (V1.trans V2)
   have hq5:=hq2.same S25
   refine⟨L,q,p2,[("out",n,[])],B',rfl,hq5,ok,fun z=>?_,?_,fun r hr'=>?_,hfo,fun L' H6 st hq6=>?_⟩
   ·obtain⟨o,e⟩:=qX (hq2.same (V0.trans V1)) z
    rw[e]at hp2
    cases hp2
   ·simp only[Den,List.map_cons,List.map_nil,aU]
    refine⟨p2,_,rfl,v2,_,_,rfl,?_,rfl⟩
    unfold cS gN
    simp only[Den,aU,List.map_nil]
    exact⟨p1,_,rfl,V2 _ _ v1,_,_,rfl,rfl,_,_,rfl,rfl,_,_,rfl,⟨p0,_,rfl,V2 _ _ (V1 _ _ v0),rfl⟩,rfl⟩
   ·rw[List.mem_singleton.mp hr']
    exact Br (.inl rfl) n0 n9
   obtain⟨nn,nh,_,_⟩:=i7 q
   have st05:=(aF.step (S12.trans S25)).trans st
   obtain⟨dx6,h6⟩:=hq6.self
   obtain⟨hk,g6,r6⟩:=hq6.held
   rw[show (yI (a7 q) (cH [("out",n,[])]) B').hs=q.hs from nh]at r6
   rw[st.qu]at h6
   refine⟨_,rfl,_,rfl,L.qu,_,dx6,_,_,rfl,h6,T.cl_Queue,T.f_now,rfl,cC,fun pt hpt=>?_⟩
   have nowE:(yI (a7 q) (cH [("out",n,[])]) B').now=q.now:=nn
   rw[nowE]
   have V6:=aJ (o:=.tup [.str x,.int q.now]) hpt
   have v6:upd H6 pt (.tup [.str x,.int q.now]) pt=some (.tup [.str x,.int q.now]):=aE
   generalize upd H6 pt (.tup [.str x,.int q.now])=H7 at V6 v6 ⊢
   have fr:fA q.hs n=none:=by
    have hm:n∈mU q ms':=by rw[er]; exact List.mem_cons_self
    have:=(List.mem_filter.mp (List.mem_filter.mp hm).1).2
    exact Option.isNone_iff_eq_none.mp this
   have ev:=(r6.look (n:=n)).1 fr
   have ep:gP hk (Sum.inl n) (V.ref pt)=hk++[(Sum.inl n,V.ref pt)]:=by
    unfold gP
    rw[kI,ev]
    rfl
   have hkl:hk.length<sizeLine:=by
    rw[r6.len]
    exact Nat.lt_trans hh (by decide)
   refine⟨_,rfl,L.qu,_,dx6,_,_,rfl,V6 _ _ h6,T.cl_Queue,T.f_holders,rfl,_,rfl,L'.hd,_,rfl,tZ.k (k:=Sum.inl n) (V6 _ _ g6) hkl,?_⟩
   rw[ep]
   obtain⟨hq8,st8⟩:=(hq6.same V6).toHeld (HoR.snoc v6 (r6.t (aF.tup V6)):HoR H7 (q.hs++[(n,(x,q.now))]) (hk++[(Sum.inl n,.ref pt)]))
   generalize upd H7 L'.hd (.dK (hk++[(Sum.inl n,.ref pt)]))=H8 at hq8 st8 ⊢
   obtain⟨dx8,h8⟩:=hq8.self
   obtain⟨db8,hb8⟩:=hq8.book.self
   rw[st.qu]at h8
   refine⟨_,rfl,L.qu,_,dx8,_,_,rfl,h8,T.cl_Queue,T.f_book,rfl,L'.bk,db8,_,rfl,hb8,rfl,_,rfl,L'.bk,L'.de,L'.dp,B',n,e,rfl,hq8.book,hle,fun pr H9 S9 d9=>?_⟩
   exact qq pr L' H9 (st05.trans ((aF.step V6).trans (st8.trans (aF.step S9)))) (hq8.same S9) d9
theorem l7:FnScope ["self","hand","number"] ["self","hand","number"] (aH pB):=‹0›
set_option maxHeartbeats 1000000 in
theorem Ao {f:Addr} {fd:FuncData} (F:Fun K "check_held" "Queue.check_held" pB f fd) (T:TxtQ K mg A) (c_is_number:‹4›) (c_check_hand:‹8› "check_hand" 2 ["hand"] (fP A)):‹7› 3 f fd ["self","hand","number"] (mH A):=by
 obtain⟨_,hc_HIGHEST_NUMBER⟩:=T.c_HIGHEST_NUMBER
 refine F.okX l7 (fun vs H Q E h=>?_) (fun cdv A' outer s H vs Q E hr h=>?_)
 ·obtain⟨L,q,x,n,tm,rfl,_⟩:=h
  rfl
 ·obtain⟨L,q,x,n,tm,rfl,hq,hw,hz,n0,n9,el,qq⟩:=h
  refine⟨_,@aA _ _ _ _ _ (aQ (bB c_check_hand ‹12› bK (aD (pv 1) aB))) (@aA _ _ _ _ _ (@a9 _ _ _ _ _ _ _ _ (@PW.pt _ _ _ (@kC _ _ _ _ _ _ _ (@cF _ _ _ _ (@cY _ _ _ (@bB _ _ _ _ _ _ _ _ _ _ _ c_is_number ‹12› aW (@aD _ _ _ _ _ _ ‹22› (@aO _ _ _ _ _ _ _ ‹21› (@aD _ _ _ _ _ _ (@bX _ _ (.int 999999) _ _ (by rfl) hc_HIGHEST_NUMBER ⟨_,rfl⟩ ⋯) (@aB _)))) ⋯ ⋯ ⋯ ⋯) ⋯)) (@hW _ _ _ _ (@sF _ _ _ _ _ _ (@pK _ _ _ _ _ (hu1 hr.units) ‹22› ‹27›) ⋯)))) (@aC _ _ _ (@dC _ _ _ _ _ _ _ _ _ _ eJ (by rfl) T.x_NotHeld (by rfl) T.m_NotHeld ‹20› ⋯ ⋯ ⋯)) (@aP _)) (@aC _ _ _ (@a9 _ _ _ _ _ _ _ _ (@aS _ _ _ _ _ _ _ _ kD (@c8 _ _ _ _ _ _ _ (cQ K) (@nU _ _ _ _ _ _ (hu1 hr.units) ‹27› ‹22› (fun _ _=>rfl)) ‹21› (fun _ _=>rfl)) ‹18› (aX _)) (@aC _ _ _ (@dC _ _ _ _ _ _ _ _ _ _ eJ (by rfl) T.x_NotHeld (by rfl) T.m_NotHeld ‹20› ⋯ ⋯ ⋯)) (@aP _)))),?_⟩
  refine⟨_,rfl,.str x,.str x,rfl,by simp only[Den],(fun y e=>by injection e with e; rw[<- e]; exact hz),fun _ H1 S1=>?_,(fun z=>by rw[hw]at z; cases z)⟩
  have hq1:=hq.same S1
  obtain⟨dx,h1⟩:=hq1.self
  obtain⟨hk,g1,r1⟩:=hq1.held
  have isn:bH 0 999999 (.int n)=true:=by
   simp only[bH,Bool.and_eq_true,decide_eq_true_eq]
   exact⟨n0,n9⟩
  obtain⟨t,ev,gt⟩:=(r1.look (n:=n)).2 x tm el
  have dg:eO H1 L.hd (.int n) (some (.ref t)):=by
   have:=eO.k (k:=Sum.inl n) g1
   rw[ev]at this
   exact this
  refine⟨_,rfl,.int n,.int n,0,999999,rfl,by simp only[Den],_,rfl,?_⟩
  rw[isn]
  refine aV ⟨_,rfl,_,rfl,L.qu,_,dx,_,_,rfl,h1,T.cl_Queue,T.f_holders,rfl,L.hd,_,rfl,dg,_,rfl,aV (bE rfl ?_)⟩
  refine⟨_,rfl,L.qu,_,dx,_,_,rfl,h1,T.cl_Queue,T.f_holders,rfl,_,rfl,L.hd,_,rfl,dg,?_⟩
  refine⟨t,_,_,.str x,rfl,rfl,SqT.of gt,bY (by decide) rfl,_,rfl,rfl,_,rfl,?_⟩
  rw[decide_eq_true rfl]
  exact aV (qq H1 S1)
end
end Qh
end
section
namespace Qh
open PySem L2
noncomputable abbrev rY:Stmt:=bI (top 52) 4
noncomputable abbrev o7:Stmt:=bI (top 52) 15
noncomputable abbrev kX:Stmt:=bI (top 35) 7
noncomputable def zT (q:Qs) (n:Int) (B':Bk):Qs:={ yI (a7 q) (cH [("done",n,[])]) B' with hs:=qA q.hs n }
noncomputable def Be (q:Qs):Qs:={ q with D:=zR q.D (aN q.first),first:=q.first+1 }
noncomputable def eW (A:Ad):Sp:=fun vs H Q _=>∃ (L:Pl) (q:Qs) (x:Str) (n tm:Int) (B':Bk),vs=[.ref L.qu,.str x,.int n]/\QueueW A H L q false/\cN lD 6 (.str x)=true/\(x.length<=1000/\kF x=true)/\0<=n/\n<=999999/\fA q.hs n=some (x,tm)/\WOk q 1/\dF (a7 q).last (a7 q).B [("done",n,[])]=some B'/\∀ L' H',Step L L' H H'->QueueW A H' L' (zT q n B') false->Q .non H'
noncomputable def yR (es:List (Int × Ent)) (n:Int):Int:=((dQ es n).getD ([],0,0)).2.2
noncomputable def mJ (C:Addr):Sp:=fun vs H Q _=>∃ (bk de dp:Addr) (B:Bk) (seg:Int),vs=[.ref bk,.int seg]/\BookAt C H bk de dp B/\B.es.length<500/\∀ ms,List.Perm ms (B.es.map (·.1))->ms.Pairwise (· <= ·)->∀ p H',aF H H'->H p=none->H' p=some (.lst ((ms.filter fun n=>decide (yR B.es n=seg)).map V.int))->Q (.ref p) H'
noncomputable def tO (q:Qs):List Int:=(q.B.es.map (·.1)).filter fun n=>decide (yR q.B.es n=q.first)
noncomputable def eR (A:Ad):Sp:=fun vs H Q _=>∃ (L:Pl) (q:Qs) (I:Qs->Prop),vs=[.ref L.qu]/\QueueW A H L q false/\I q/\(∀ q',I q'->q'.B.es.length<500/\(q'.first<q'.last->tO q'=[]->q'.D.left=none/\cR q'.first/\(∃ bs,aI q'.D.fs (aN q'.first)=some bs)/\I (Be q')))/\
 ∀ L' q' H',Step L L' H H'->QueueW A H' L' q' false->I q'->(¬ q'.first<q'.last\/tO q'≠[])->Q (.int (q'.first - q.first)) H'
section
variable {P:Program} {w:World} {K:PySem.W.Frag} {mg:Str->Option Value} {base:Heap} {A:Ad}
theorem uF:FnScope ["self","hand","number"] ["self","hand","number"] (aH rY):=‹0›
set_option maxHeartbeats 1000000 in
theorem CI {f:Addr} {fd:FuncData} (F:Fun K "done" "Queue.done" rY f fd) (T:TxtQ K mg A) (mQ_check_held:‹9› A.queue "check_held" 3 ["self","hand","number"] (mH A)) (mQ_write:‹9› A.queue "write" 7 ["self","rows"] (gY A)):‹7› 8 f fd ["self","hand","number"] (eW A):=by
 refine F.okX uF (fun vs H Q E h=>?_) (fun cdv A' outer s H vs Q E hr h=>?_)
 ·obtain⟨L,q,x,n,tm,B',rfl,_⟩:=h
  rfl
 ·obtain⟨L,q,x,n,tm,B',rfl,hq,hw,hz,n0,n9,el,ok,hfo,qq⟩:=h
  refine⟨_,@aA _ _ _ _ _ (aQ (cB mQ_check_held T.cl_Queue ‹12› bK (pv 0) (aD (pv 1) (aD (pv 2) aB)))) (@aA _ _ _ _ _ (aQ (cB mQ_write T.cl_Queue ‹12› bK (pv 0) (xD (iS (dE (cG (aO dW (aD (pv 2) (dE (cG aB) aB)))) aB)) aB))) (@aC _ _ _ (aQ (pJ K PySem.F.plainAttrs_dict PySem.F.slot_dict_pop PySem.F.type_dict_pop xR (dD (pv 0) (by rfl)) (aD (pv 2) aB))))),?_⟩
  obtain⟨dx0,h0⟩:=hq.self
  refine⟨_,rfl,L.qu,dx0,_,rfl,h0,rfl,_,rfl,_,rfl,L,q,x,n,tm,rfl,hq,hw,hz,n0,n9,el,fun H2 S2=>?_⟩
  have hq2:=hq.same S2
  obtain⟨dx2,h2⟩:=hq2.self
  refine⟨_,rfl,L.qu,dx2,_,rfl,h2,rfl,_,rfl,cC,fun p0 hp0=>⟨cC,fun p1 hp1=>⟨cC,fun p2 hp2=>?_⟩⟩⟩
  have V0:=aJ (o:=.tup []) hp0
  have v0:upd H2 p0 (.tup []) p0=some (.tup []):=aE
  generalize upd H2 p0 (.tup [])=H3 at V0 v0 hp1 hp2 ⊢
  have V1:=aJ (o:=.tup [.str "done",.int n,.ref p0]) hp1
  have v1:upd H3 p1 (.tup [.str "done",.int n,.ref p0]) p1=some (.tup [.str "done",.int n,.ref p0]):=aE
  generalize upd H3 p1 (.tup [.str "done",.int n,.ref p0])=H4 at V1 v1 hp2 ⊢
  have V2:=aJ (o:=.lst [.ref p1]) hp2
  have v2:upd H4 p2 (.lst [.ref p1]) p2=some (.lst [.ref p1]):=aE
  generalize upd H4 p2 (.lst [.ref p1])=H5 at V2 v2 ⊢
  have S25:=V0.trans (V1.trans V2)
  have hq5:=hq2.same S25
  refine⟨L,q,p2,[("done",n,[])],B',rfl,hq5,ok,fun z=>?_,?_,fun r hr'=>?_,hfo,fun L' H6 st hq6=>?_⟩
  ·obtain⟨o,e⟩:=qX (hq2.same (V0.trans V1)) z
   rw[e]at hp2
   cases hp2
  ·simp only[Den,List.map_cons,List.map_nil,aU]
   refine⟨p2,_,rfl,v2,_,_,rfl,?_,rfl⟩
   unfold cS gN
   simp only[Den,aU,List.map_nil]
   exact⟨p1,_,rfl,V2 _ _ v1,_,_,rfl,rfl,_,_,rfl,rfl,_,_,rfl,⟨p0,_,rfl,V2 _ _ (V1 _ _ v0),rfl⟩,rfl⟩
  ·rw[List.mem_singleton.mp hr']
   exact Br (.inr (.inr rfl)) n0 n9
  obtain⟨dx6,h6⟩:=hq6.self
  obtain⟨hk,g6,r6⟩:=hq6.held
  rw[show (yI (a7 q) (cH [("done",n,[])]) B').hs=q.hs from (i7 q).2.1]at r6
  obtain⟨t,ev,gt⟩:=(r6.look (n:=n)).2 x tm el
  rw[st.qu]at h6
  refine⟨_,rfl,L.qu,_,dx6,_,_,rfl,h6,T.cl_Queue,T.f_holders,rfl,.inr (.inr (.inl ⟨rfl,.inl ⟨_,g6⟩⟩)),_,rfl,L'.hd,hk,Sum.inl n,_,rfl,rfl,g6,ev,?_⟩
  obtain⟨hq7,st7⟩:=hq6.toHeld (r6.drop (n:=n))
  exact qq _ _ ((aF.step (S2.trans S25)).trans (st.trans st7)) hq7
theorem mQ:FnScope ["self","segment"] ["self","segment"] (aH kX):=‹0›
set_option maxHeartbeats 1000000 in
theorem xP {f:Addr} {fd:FuncData} {a_KINDS C_BadRow C_Broken C_Book:Addr} (F:Fun K "numbers_in" "Book.numbers_in" kX f fd) (T:‹5›):‹7› 1 f fd ["self","segment"] (mJ C_Book):=by
 refine F.okX mQ (fun vs H Q E h=>?_) (fun cdv A' outer s H vs Q E hr h=>?_)
 ·obtain⟨bk,de,dp,B,seg,rfl,_⟩:=h
  rfl
 ·obtain⟨bk,de,dp,B,seg,rfl,hB,hl,qq⟩:=h
  refine⟨_,@aC _ _ _ (@bA _ _ _ _ (@eP _ _ _ _ _ _ _ _ _ _ _ ["number"] [("self",0),("segment",1)] (by rfl) (@cP _ K _ _ _ (@bC _ _ _ _ _ _ _ _ _ (@oE _ (by rfl)) (by rfl) T.n_sorted l0 ‹44› ⋯ ⋯ ⋯ ⋯) ⋯) (fun C s2 H2 ex=>(@bW _ _ (0) _ (show List.Nodup (["number","self","segment"]:List Str) by decide +kernel) (by rfl) (Or.inl (by rfl)) ⋯)) (fun C s2 H2 ex=>(@qQ _ _ _ (@aS _ _ _ _ _ _ _ _ lA (@c8 _ _ _ _ _ _ _ (cQ K) (@nU _ _ _ _ _ _ (hu1 hr.units) (@qR K _ _ _ _ _ ‹18› (by rfl) ⋯) ‹17› (fun _ _=>rfl)) ‹21› (fun _ _=>rfl)) ‹22› (aX _)))) (fun C s2 H2 ex=>‹17›) ⋯ ⋯ ⋯ ⋯)),?_⟩
  obtain⟨dx,h1⟩:=hB.self
  obtain⟨kvs,h2,h3⟩:=hB.ent
  refine⟨_,rfl,bk,_,dx,_,_,rfl,h1,T.cl,T.f_entries,rfl,de,kvs,_,rfl,h2,h3.keys,by rw[List.length_map]; omega,fun p ms perm pw hp=>?_⟩
  have S1:=aJ (o:=.lst (ms.map .int)) hp
  have g1:upd H p (.lst (ms.map .int)) p=some (.lst (ms.map .int)):=aE
  generalize upd H p (.lst (ms.map .int))=H1 at S1 g1 ⊢
  have lm:(ms.map V.int).length=ms.length:=List.length_map _
  have pl:=perm.length_eq
  rw[List.length_map]at pl
  refine⟨p,rfl,⟨_,SqL.of g1⟩,?_⟩
  refine oB (cO (K:=K) (SqL.of g1)) (by rw[lm,pl]; exact Nat.le_of_lt (Nat.lt_trans hl (by decide))) (fun j=>decide (yR B.es (ms.getD j 0)=seg)) (fun j=>V.int (ms.getD j 0)) (fun σ=>∃ z,σ = [z,some (.ref bk),some (.int seg)]) ⟨none,rfl⟩ ?_ ?_
  ·intro j x σc H3 hj hσ s3 hx Q1 Q2 Q3 h2' h3'
   obtain⟨z,rfl⟩:=hσ
   rw[List.getElem?_map]at hx
   cases e:ms[j]? with
   | none=>rw[e]at hx; cases hx
   | some n=>
    rw[e]at hx
    cases hx
    have eg:ms.getD j 0=n:=by rw[List.getD_eq_getElem?_getD,e]; rfl
    rw[eg]at h2' h3'
    have hin:n∈B.es.map (·.1):=perm.mem_iff.mp (List.mem_of_getElem? e)
    obtain⟨en,hen⟩:=zF hin
    have S13:aF H H3:=S1.trans s3
    have hv:=h3.val (n:=n)
    rw[hen]at hv
    obtain⟨v,hv1,t,b,rfl,gt,gb⟩:=hv
    have dg:eO H3 de (.int n) (some (.ref t)):=by
     have:=eO.k (k:=Sum.inl n) (S13 _ _ h2)
     rw[hv1]at this
     exact this
    have es:yR B.es n=en.2.2:=by
     unfold yR
     rw[hen]
     rfl
    rw[es]at h2' h3'
    refine⟨_,rfl,bk,_,dx,_,_,rfl,S13 _ _ h1,T.cl,T.f_entries,rfl,_,rfl,de,_,rfl,dg,t,_,_,.int en.2.2,rfl,rfl,SqT.of (S13 _ _ gt),bY (by decide) rfl,_,rfl,rfl,_,rfl,?_⟩
    by_cases y:en.2.2=seg
    ·rw[decide_eq_true (show V.int en.2.2=V.int seg by rw[y])]
     exact aT ⟨_,rfl,h2' _ ⟨_,rfl⟩ (decide_eq_true y)⟩
    ·rw[lY y]
     exact aV (h3' _ ⟨_,rfl⟩ (decide_eq_false y))
  intro D H2 hD S2 g2
  rw[lm,zL ms (fun n=>decide (yR B.es n=seg))]at g2
  exact qq ms perm pw D H2 (S1.trans S2) (S1.free hD) g2
theorem hU:FnScope ["self","went"] ["self"] (aH o7):=‹0›
set_option maxHeartbeats 1000000 in
theorem Ak {f:Addr} {fd:FuncData} (F:Fun K "sweep" "Queue.sweep" o7 f fd) (T:TxtQ K mg A) (mB_numbers_in:‹9› A.book "numbers_in" 1 ["self","segment"] (mJ A.book)) (mQ_drop_first:‹9› A.queue "drop_first" 5 ["self"] (mG A)):‹7› 6 f fd ["self"] (eR A):=by
 refine F.okX hU (fun vs H Q E h=>?_) (fun cdv A' outer s H vs Q E hr h=>?_)
 ·obtain⟨L,q,I,rfl,_⟩:=h
  rfl
 ·obtain⟨L,q,I,rfl,hq,hI,hst,qq⟩:=h
  refine⟨_,@aA _ _ _ _ _ (@a8 _ _ (1) _ _ _ _ hU.nd (by rfl) (by first | exact Or.inl (by rfl) | exact Or.inr (by rfl)) ‹21› ⋯ ⋯) (@aA _ _ _ _ _ (@sH _ _ _ _ _ _ (qH fM) (@PW.pt _ _ _ (@jV _ _ _ _ _ _ _ (@aS _ _ _ _ _ _ _ _ vE ‹27› ‹27› (aX _)) (@gO _ _ _ _ (@cF _ _ _ _ (@e8 _ K _ _ (@cB _ _ _ _ _ _ _ _ _ _ _ _ _ _ _ mB_numbers_in T.cl_Book ‹12› aW ‹27› ‹44› ⋯ ⋯ ⋯) ⋯ ⋯))))) (@aA _ _ _ _ _ (aQ (cU mQ_drop_first T.cl_Queue ‹12› bK (pv 0))) (@aC _ _ _ (@DU _ _ (1) _ _ _ _ _ _ hU.nd (by rfl) (by first | exact Or.inl (by rfl) | exact Or.inr (by rfl)) ‹21› Gd ⋯)))) (@aC _ _ _ (@bA _ _ _ _ ‹18›))),?_⟩
  refine⟨fun m σ H3=>∃ L' q',m=(q'.last - q'.first).toNat/\Step L L' H H3/\QueueW A H3 L' q' false/\I q'/\σ = [some (.ref L.qu),some (.int (q'.first - q.first))],⟨_,L,q,rfl,aF.step (aF.refl H),hq,hI,by rw[Int.sub_self]; rfl⟩,?_⟩
  rintro m σ H3 ⟨L',q',rfl,st,hq3,hI3,rfl⟩
  obtain⟨e1,e3⟩:=hst q' hI3
  obtain⟨dx,h1⟩:=hq3.self
  obtain⟨db,hb⟩:=hq3.book.self
  rw[st.qu]at h1
  refine⟨_,rfl,L.qu,_,dx,_,_,rfl,h1,T.cl_Queue,T.f_first,rfl,_,rfl,L.qu,_,dx,_,_,rfl,h1,T.cl_Queue,T.f_last,rfl,_,_,rfl,rfl,_,rfl,?_⟩
  show if decide (q'.first<q'.last)=true then _ else _
  by_cases hlt:q'.first<q'.last
  ·rw[if_pos (decide_eq_true hlt)]
   refine⟨_,rfl,L.qu,_,dx,_,_,rfl,h1,T.cl_Queue,T.f_book,rfl,L'.bk,db,_,rfl,hb,rfl,_,rfl,L.qu,_,dx,_,_,rfl,h1,T.cl_Queue,T.f_first,rfl,L'.bk,L'.de,L'.dp,q'.B,_,rfl,hq3.book,e1,fun ms perm pw p H4 S4 hp4 g4=>?_⟩
   have pf:List.Perm (ms.filter fun n=>decide (yR q'.B.es n=q'.first)) (tO q'):=perm.filter _
   have hq4:=hq3.same S4
   refine⟨p,_,rfl,SqL.of g4,?_⟩
   cases er:ms.filter (fun n=>decide (yR q'.B.es n=q'.first)) with
   | nil=>
    rw[er]at pf
    have ef:tO q'=[]:=List.Perm.eq_nil pf.symm
    obtain⟨l1,l2,⟨bs,l3⟩,l4⟩:=e3 hlt ef
    refine aT ⟨fun σ' H'=>∃ L'' q'',(q''.last - q''.first).toNat<(q'.last - q'.first).toNat/\Step L L'' H H'/\QueueW A H' L'' q'' false/\I q''/\σ'=[some (.ref L.qu),some (.int (q''.first - q.first))],fun σ' H' ⟨L'',q'',w1,w2,w3,w4,w5⟩=>⟨_,w1,L'',q'',rfl,w2,w3,w4,w5⟩,?_⟩
    obtain⟨dx4,h4⟩:=hq4.self
    rw[st.qu]at h4
    refine⟨_,rfl,L.qu,dx4,_,rfl,h4,rfl,L',q',false,bs,by rw[st.qu],hq4,l1,l2,l3,fun L5 H5 st5 hq5=>?_⟩
    refine⟨.int (q'.first - q.first),rfl,_,_,rfl,rfl,L5,Be q',by show (q'.last - (q'.first+1)).toNat<_; omega,st.trans ((aF.step S4).trans st5),hq5,l4,?_⟩
    show [_,some (V.int (q'.first - q.first+1))]=[_,some (V.int (q'.first+1 - q.first))]
    rw[show q'.first - q.first+1=q'.first+1 - q.first by omega]
   | cons n r=>
    rw[er]at pf
    refine aV ⟨_,rfl,qq L' q' H4 (st.trans (aF.step S4)) hq4 hI3 (.inr fun y=>?_)⟩
    rw[y]at pf
    have:=pf.eq_nil
    cases this
  ·rw[if_neg (by rw[decide_eq_true_eq]; exact hlt)]
   exact aV ⟨_,rfl,qq L' q' H3 st hq3 hI3 (.inl hlt)⟩
end
end Qh
end
section
namespace Qh
open PySem L2
noncomputable abbrev rV:Stmt:=bI (top 52) 0
noncomputable def tH (D:Dk) (ms:List Int) (B:Bk) (most hold tries:Int):Qs:=⟨(bL D ms).1,B,most,hold,tries,(bL D ms).2.headD 0,(bL D ms).2.getLastD 0,0,[]⟩
theorem zI {D:Dk} {ms:List Int} (h:ms≠[]):(tI D ms).2≠[]:=by
 unfold tI
 split
 ·rename_i z
  intro y
  have:=congrArg List.length y
  rw[List.length_dropLast]at this
  have z2:=z.2
  rw[List.length_nil]at this
  omega
 ·dsimp only
  split <;> exact h
theorem D4 {D:Dk} {ms:List Int}:(bL D ms).2≠[]:=by
 unfold bL
 split
 ·exact zI (by simp)
 ·exact zI ‹_›
noncomputable def oM (A:Ad):Sp:=fun vs H Q _=>∃ (qu dx dk df:Addr) (kvs:List (Key × V)) (D:Dk) (ns ms:List Int) (B:Bk) (most hold tries:Int),vs=[.ref qu,.ref dk,.int most,.int hold,.int tries]/\H qu=some (.ins A.queue dx [])/\DiskAt A.disk H dk df kvs D/\¬ own dk df kvs qu/\uZ (.int most) (.int hold) (.int tries)=true/\D.left=none/\DiskOk D ns/\List.Perm ms ns/\ms.Pairwise (· <= ·)/\iH ms/\(∀ bs,aI D.fs (aN (ms.getLastD 0))=some bs->dN (bs.length+1) bs≠none)/\oF D (ms.getLastD 0) ms ⟨[],0,[]⟩=some B/\
 ∀ L' H',L'.qu=qu->L'.dk=dk->(∀ b o,H b=some o->b≠qu->¬ own dk df kvs b->H' b=some o)->(∀ b,mZ L' b->b=qu\/own dk df kvs b\/H b=none)->QueueW A H' L' (tH D ms B most hold tries) false->Q .non H'
section
variable {P:Program} {w:World} {K:PySem.W.Frag} {mg:Str->Option Value} {base:Heap} {A:Ad}
theorem iE:FnScope ["self","disk","most","hold","tries","segments"] ["self","disk","most","hold","tries"] (aH rV):=‹0›
set_option maxHeartbeats 2000000 in
theorem CF {f:Addr} {fd:FuncData} (F:Fun K "__init__" "Queue.__init__" rV f fd) (T:TxtQ K mg A) (c_check_settings:‹8› "check_settings" 2 ["most","hold","tries"] (eY A)) (c_book_of:‹8› "book_of" 7 ["disk"] (mK A)) (c_make_good:‹8› "make_good" 6 ["disk"] (gI A)):‹7› 8 f fd ["self","disk","most","hold","tries"] (oM A):=by
 refine F.okX iE (fun vs H Q E h=>?_) (fun cdv A' outer s H vs Q E hr h=>?_)
 ·obtain⟨qu,dx,dk,df,kvs,D,ns,ms,B,most,hold,tries,rfl,_⟩:=h
  rfl
 ·obtain⟨qu,dx,dk,df,kvs,D,ns,ms,B,most,hold,tries,rfl,h0,hD,nqu,hset,hl,ok,perm,pw,hg,hread,hbook,qq⟩:=h
  refine⟨_,@aA _ _ _ _ _ (aQ (bB c_check_settings ‹12› bK (aD (pv 2) (aD (pv 3) (aD (pv 4) aB))))) (@aA _ _ _ _ _ (@cT _ _ _ _ _ _ _ _ ‹17› ‹18› (by rfl)) (@aA _ _ _ _ _ (@cT _ _ _ _ _ _ _ _ ‹17› ‹22› (by rfl)) (@aA _ _ _ _ _ (@cT _ _ _ _ _ _ _ _ ‹17› ‹23› (by rfl)) (@aA _ _ _ _ _ (@cT _ _ _ _ _ _ _ _ ‹17› ‹25› (by rfl)) (@aA _ _ _ _ _ (@cT _ _ _ _ _ _ _ _ ‹17› (@bB _ _ _ _ _ _ _ _ _ _ _ c_book_of ‹12› bK (@aD _ _ _ _ _ _ ‹18› (@aB _)) ⋯ ⋯ ⋯ ⋯) (by rfl)) (@aA _ _ _ _ _ (@a8 _ _ (5) _ _ _ _ iE.nd (by rfl) (by first | exact Or.inl (by rfl) | exact Or.inr (by rfl)) (@bB _ _ _ _ _ _ _ _ _ _ _ c_make_good ‹12› bK (@aD _ _ _ _ _ _ ‹18› (@aB _)) ⋯ ⋯ ⋯ ⋯) ⋯ ⋯) (@aA _ _ _ _ _ (@cT _ _ _ _ _ _ _ _ ‹17› (@c8 _ _ _ _ _ _ _ (eM K) (@pv _ 5 _ _ ⋯ ⋯ ⋯ ⋯) ‹21› (fun _ _=>rfl)) (by rfl)) (@aA _ _ _ _ _ (@cT _ _ _ _ _ _ _ _ ‹17› (@c8 _ _ _ _ _ _ _ (eM K) (@pv _ 5 _ _ ⋯ ⋯ ⋯ ⋯) (@DY _ _ _ _ _ _ AH ‹21›) (fun _ _=>rfl)) (by rfl)) (@aA _ _ _ _ _ (@cT _ _ _ _ _ _ _ _ ‹17› (@BU _ _ _ _) (by rfl)) (@aA _ _ _ _ _ (@cT _ _ _ _ _ _ _ _ ‹17› (@sJ _ _) (by rfl)) (@aC _ _ _ (@cT _ _ _ _ _ _ _ _ ‹17› ‹21› (by rfl))))))))))))),?_⟩
  have ddk:∀ {H':Hp},But qu H H'->DiskAt A.disk H' dk df kvs D:=fun b=>hD.keep fun c o e hc=>b c o e (fun z=>by rw[z]at hc; exact nqu hc)
  refine⟨_,rfl,_,rfl,_,rfl,.int most,.int hold,.int tries,.int most,.int hold,.int tries,rfl,by simp only[Den],by simp only[Den],by simp only[Den],fun _=>?_,(fun z=>by rw[hset]at z; cases z)⟩
  have but:∀ {H1:Hp} {o:HO},But qu H H1->But qu H (upd H1 qu o):=fun b c o e nc=>by rw[aG nc]; exact b c o e nc
  refine⟨_,rfl,_,rfl,qu,_,dx,_,rfl,h0,T.cl_Queue,T.f_disk,(Nat.le_of_ble_eq_true rfl),?_⟩
  have b1:But qu H (upd H qu (.ins A.queue dx (cA "disk" (.ref dk) []))):=but (fun _ _ e _=>e)
  have h1:upd H qu (.ins A.queue dx (cA "disk" (.ref dk) [])) qu=some (.ins A.queue dx [("disk",.ref dk)]):=aE
  generalize upd H qu (.ins A.queue dx (cA "disk" (.ref dk) []))=H1 at b1 h1 ⊢
  refine⟨_,rfl,_,rfl,qu,_,dx,_,rfl,h1,T.cl_Queue,T.f_most,(Nat.le_of_ble_eq_true rfl),?_⟩
  have b2:=but (o:=.ins A.queue dx (cA "most" (.int most) [("disk",.ref dk)])) b1
  have h2:upd H1 qu (.ins A.queue dx (cA "most" (.int most) [("disk",.ref dk)])) qu=some (.ins A.queue dx [("disk",.ref dk),("most",.int most)]):=aE
  generalize upd H1 qu (.ins A.queue dx (cA "most" (.int most) [("disk",.ref dk)]))=H2 at b2 h2 ⊢
  refine⟨_,rfl,_,rfl,qu,_,dx,_,rfl,h2,T.cl_Queue,T.f_hold,(Nat.le_of_ble_eq_true rfl),?_⟩
  have b3:=but (o:=.ins A.queue dx (cA "hold" (.int hold) [("disk",.ref dk),("most",.int most)])) b2
  have h3:upd H2 qu (.ins A.queue dx (cA "hold" (.int hold) [("disk",.ref dk),("most",.int most)])) qu=some (.ins A.queue dx [("disk",.ref dk),("most",.int most),("hold",.int hold)]):=aE
  generalize upd H2 qu (.ins A.queue dx (cA "hold" (.int hold) [("disk",.ref dk),("most",.int most)]))=H3 at b3 h3 ⊢
  refine⟨_,rfl,_,rfl,qu,_,dx,_,rfl,h3,T.cl_Queue,T.f_tries,(Nat.le_of_ble_eq_true rfl),?_⟩
  have b4:=but (o:=.ins A.queue dx (cA "tries" (.int tries) [("disk",.ref dk),("most",.int most),("hold",.int hold)])) b3
  have h4:upd H3 qu (.ins A.queue dx (cA "tries" (.int tries) [("disk",.ref dk),("most",.int most),("hold",.int hold)])) qu=some (.ins A.queue dx [("disk",.ref dk),("most",.int most),("hold",.int hold),("tries",.int tries)]):=aE
  generalize upd H3 qu (.ins A.queue dx (cA "tries" (.int tries) [("disk",.ref dk),("most",.int most),("hold",.int hold)]))=H4 at b4 h4 ⊢
  refine⟨_,rfl,dk,df,kvs,D,ns,rfl,ddk b4,ok,fun ms' perm' pw'=>?_⟩
  have em:ms'=ms:=fY (perm'.trans perm.symm) pw' pw
  subst ms'
  refine⟨fun z=>absurd hg z,fun _=>⟨(fun z=>by rw[hbook]at z; cases z),fun B' hB' _ bk de dp H5 S5 hbk hde hdp hB5=>?_⟩⟩
  rw[hbook]at hB'
  cases hB'
  have n4:∀ {c:Addr},H4 c=none->c≠qu/\H c=none:=fun {c} z=>by
   refine⟨(fun y=>by rw[y,h4]at z; cases z),?_⟩
   cases e:H c with
   | none=>rfl
   | some o=>
    by_cases y:c=qu
    ·rw[y,h4]at z; cases z
    ·rw[b4 c o e y]at z; cases z
  obtain⟨nbk,ibk⟩:=n4 hbk
  obtain⟨nde,ide⟩:=n4 hde
  obtain⟨ndp,idp⟩:=n4 hdp
  have b5:But qu H H5:=fun c o e nc=>S5 _ _ (b4 c o e nc)
  refine⟨_,rfl,qu,_,dx,_,rfl,S5 _ _ h4,T.cl_Queue,T.f_book,(Nat.le_of_ble_eq_true rfl),?_⟩
  have b6:=but (o:=.ins A.queue dx (cA "book" (.ref bk) [("disk",.ref dk),("most",.int most),("hold",.int hold),("tries",.int tries)])) b5
  have h6:upd H5 qu (.ins A.queue dx (cA "book" (.ref bk) [("disk",.ref dk),("most",.int most),("hold",.int hold),("tries",.int tries)])) qu=some (.ins A.queue dx [("disk",.ref dk),("most",.int most),("hold",.int hold),("tries",.int tries),("book",.ref bk)]):=aE
  have t6:gC H5 (upd H5 qu (.ins A.queue dx (cA "book" (.ref bk) [("disk",.ref dk),("most",.int most),("hold",.int hold),("tries",.int tries)]))):=lM (S5 _ _ h4) (fun xs z=>by cases z)
  have hB6:BookAt A.book (upd H5 qu (.ins A.queue dx (cA "book" (.ref bk) [("disk",.ref dk),("most",.int most),("hold",.int hold),("tries",.int tries)]))) bk de dp B:=hB5.keep (fun c o e hc=>by
   rw[aG (fun z=>by
    rw[z]at hc
    rcases hc with y | y | y
    ·exact nbk y.symm
    ·exact nde y.symm
    ·exact ndp y.symm)]
   exact e) t6
  generalize upd H5 qu (.ins A.queue dx (cA "book" (.ref bk) [("disk",.ref dk),("most",.int most),("hold",.int hold),("tries",.int tries)]))=H6 at b6 h6 t6 hB6 ⊢
  have hD6:=ddk b6
  refine⟨_,rfl,dk,df,kvs,D,ns,rfl,hD6,hl,ok,fun ms' perm' pw'=>?_⟩
  have em:ms'=ms:=fY (perm'.trans perm.symm) pw' pw
  subst ms'
  refine⟨hg,hread,fun kvs' H7 f7 w7 hD7 p gp np=>?_⟩
  have far:∀ {c:Addr} {o:HO},H6 c=some o->¬ own dk df kvs c->¬ own dk df kvs' c:=fun e nc z=>(w7 _ z).elim nc (fun y=>by rw[y]at e; cases e)
  have nown:∀ {c:Addr},H c=none->¬ own dk df kvs c:=fun z y=>by
   obtain⟨o,e⟩:=j3 hD y
   rw[z]at e
   cases e
  have h7:=f7 _ _ h6 nqu
  have t7:gC H6 H7:=f7.tup hD6
  have hB7:BookAt A.book H7 bk de dp B:=hB6.keep (fun c o e hc=>f7 c o e (by
   rcases hc with y | y | y
   ·rw[y]; exact nown ibk
   ·rw[y]; exact nown ide
   ·rw[y]; exact nown idp)) t7
  have npq:p≠qu:=fun z=>by rw[z,h7]at gp; cases gp
  have hne:=D4 (D:=D) (ms:=ms)
  obtain⟨s0,ss,es⟩:=List.exists_cons_of_ne_nil hne
  have b7:∀ b o,H b=some o->b≠qu->¬ own dk df kvs b->H7 b=some o:=fun b o e nb no=>f7 b o (b6 b o e nb) no
  have nqu':¬ own dk df kvs' qu:=far h6 nqu
  have nbk':∀ {c:Addr} {o:HO},H6 c=some o->H c=none->¬ own dk df kvs' c:=fun e z=>far e (nown z)
  have base:∀ {G G':Hp} {o:HO},(∀ c u,H7 c=some u->c≠qu->G c=some u)->G'=upd G qu o->∀ c u,H7 c=some u->c≠qu->G' c=some u:=fun h e c u z n=>by rw[e,aG n]; exact h c u z n
  have k7:∀ c u,H7 c=some u->c≠qu->H7 c=some u:=fun _ _ e _=>e
  refine⟨_,rfl,p,_,_,.int ((bL D ms).2.headD 0),rfl,rfl,SqL.of gp,bY (by decide) (by rw[es]; rfl),_,rfl,qu,_,dx,_,rfl,h7,T.cl_Queue,T.f_first,(Nat.le_of_ble_eq_true rfl),?_⟩
  have h8:upd H7 qu (.ins A.queue dx (cA "first" (.int ((bL D ms).2.headD 0)) [("disk",.ref dk),("most",.int most),("hold",.int hold),("tries",.int tries),("book",.ref bk)])) qu=some (.ins A.queue dx [("disk",.ref dk),("most",.int most),("hold",.int hold),("tries",.int tries),("book",.ref bk),("first",.int ((bL D ms).2.headD 0))]):=aE
  have k8:=base (G':=upd H7 qu (.ins A.queue dx (cA "first" (.int ((bL D ms).2.headD 0)) [("disk",.ref dk),("most",.int most),("hold",.int hold),("tries",.int tries),("book",.ref bk)]))) k7 rfl
  generalize upd H7 qu (.ins A.queue dx (cA "first" (.int ((bL D ms).2.headD 0)) [("disk",.ref dk),("most",.int most),("hold",.int hold),("tries",.int tries),("book",.ref bk)]))=H8 at h8 k8 ⊢
  refine⟨_,rfl,1,rfl,p,_,_,.int ((bL D ms).2.getLastD 0),rfl,rfl,SqL.of (k8 _ _ gp npq),qU hne,_,rfl,qu,_,dx,_,rfl,h8,T.cl_Queue,T.f_last,(Nat.le_of_ble_eq_true rfl),?_⟩
  have h9:upd H8 qu (.ins A.queue dx (cA "last" (.int ((bL D ms).2.getLastD 0)) [("disk",.ref dk),("most",.int most),("hold",.int hold),("tries",.int tries),("book",.ref bk),("first",.int ((bL D ms).2.headD 0))])) qu=some (.ins A.queue dx [("disk",.ref dk),("most",.int most),("hold",.int hold),("tries",.int tries),("book",.ref bk),("first",.int ((bL D ms).2.headD 0)),("last",.int ((bL D ms).2.getLastD 0))]):=aE
  have k9:=base (G':=upd H8 qu (.ins A.queue dx (cA "last" (.int ((bL D ms).2.getLastD 0)) [("disk",.ref dk),("most",.int most),("hold",.int hold),("tries",.int tries),("book",.ref bk),("first",.int ((bL D ms).2.headD 0))]))) k8 rfl
  generalize upd H8 qu (.ins A.queue dx (cA "last" (.int ((bL D ms).2.getLastD 0)) [("disk",.ref dk),("most",.int most),("hold",.int hold),("tries",.int tries),("book",.ref bk),("first",.int ((bL D ms).2.headD 0))]))=H9 at h9 k9 ⊢
  refine⟨_,rfl,qu,_,dx,_,rfl,h9,T.cl_Queue,T.f_writing,(Nat.le_of_ble_eq_true rfl),?_⟩
  have h10:upd H9 qu (.ins A.queue dx (cA "writing" (.bl false) [("disk",.ref dk),("most",.int most),("hold",.int hold),("tries",.int tries),("book",.ref bk),("first",.int ((bL D ms).2.headD 0)),("last",.int ((bL D ms).2.getLastD 0))])) qu=some (.ins A.queue dx [("disk",.ref dk),("most",.int most),("hold",.int hold),("tries",.int tries),("book",.ref bk),("first",.int ((bL D ms).2.headD 0)),("last",.int ((bL D ms).2.getLastD 0)),("writing",.bl false)]):=aE
  have k10:=base (G':=upd H9 qu (.ins A.queue dx (cA "writing" (.bl false) [("disk",.ref dk),("most",.int most),("hold",.int hold),("tries",.int tries),("book",.ref bk),("first",.int ((bL D ms).2.headD 0)),("last",.int ((bL D ms).2.getLastD 0))]))) k9 rfl
  generalize upd H9 qu (.ins A.queue dx (cA "writing" (.bl false) [("disk",.ref dk),("most",.int most),("hold",.int hold),("tries",.int tries),("book",.ref bk),("first",.int ((bL D ms).2.headD 0)),("last",.int ((bL D ms).2.getLastD 0))]))=H10 at h10 k10 ⊢
  refine fun hd hhd=>?_
  have nhq:hd≠qu:=fun z=>by rw[z,h10]at hhd; cases hhd
  have hh7:H7 hd=none:=by
   cases e:H7 hd with
   | none=>rfl
   | some o=>rw[k10 _ _ e nhq]at hhd; cases hhd
  have S11:=aJ (o:=.dK []) hhd
  have gh:upd H10 hd (.dK []) hd=some (.dK []):=aE
  generalize upd H10 hd (.dK [])=H11 at S11 gh ⊢
  have h11:=S11 _ _ h10
  have k11:∀ c u,H7 c=some u->c≠qu->H11 c=some u:=fun c u e n=>S11 _ _ (k10 c u e n)
  refine⟨_,rfl,qu,_,dx,_,rfl,h11,T.cl_Queue,T.f_holders,(Nat.le_of_ble_eq_true rfl),?_⟩
  have h12:upd H11 qu (.ins A.queue dx (cA "holders" (.ref hd) [("disk",.ref dk),("most",.int most),("hold",.int hold),("tries",.int tries),("book",.ref bk),("first",.int ((bL D ms).2.headD 0)),("last",.int ((bL D ms).2.getLastD 0)),("writing",.bl false)])) qu=some (.ins A.queue dx [("disk",.ref dk),("most",.int most),("hold",.int hold),("tries",.int tries),("book",.ref bk),("first",.int ((bL D ms).2.headD 0)),("last",.int ((bL D ms).2.getLastD 0)),("writing",.bl false),("holders",.ref hd)]):=aE
  have k12:=base (G':=upd H11 qu (.ins A.queue dx (cA "holders" (.ref hd) [("disk",.ref dk),("most",.int most),("hold",.int hold),("tries",.int tries),("book",.ref bk),("first",.int ((bL D ms).2.headD 0)),("last",.int ((bL D ms).2.getLastD 0)),("writing",.bl false)]))) k11 rfl
  have gh12:upd H11 qu (.ins A.queue dx (cA "holders" (.ref hd) [("disk",.ref dk),("most",.int most),("hold",.int hold),("tries",.int tries),("book",.ref bk),("first",.int ((bL D ms).2.headD 0)),("last",.int ((bL D ms).2.getLastD 0)),("writing",.bl false)])) hd=some (.dK []):=by rw[aG nhq]; exact gh
  generalize upd H11 qu (.ins A.queue dx (cA "holders" (.ref hd) [("disk",.ref dk),("most",.int most),("hold",.int hold),("tries",.int tries),("book",.ref bk),("first",.int ((bL D ms).2.headD 0)),("last",.int ((bL D ms).2.getLastD 0)),("writing",.bl false)]))=H12 at h12 k12 gh12 ⊢
  refine⟨_,rfl,qu,_,dx,_,rfl,h12,T.cl_Queue,T.f_now,(Nat.le_of_ble_eq_true rfl),?_⟩
  have h13:upd H12 qu (.ins A.queue dx (cA "now" (.int 0) [("disk",.ref dk),("most",.int most),("hold",.int hold),("tries",.int tries),("book",.ref bk),("first",.int ((bL D ms).2.headD 0)),("last",.int ((bL D ms).2.getLastD 0)),("writing",.bl false),("holders",.ref hd)])) qu=some (.ins A.queue dx [("disk",.ref dk),("most",.int most),("hold",.int hold),("tries",.int tries),("book",.ref bk),("first",.int ((bL D ms).2.headD 0)),("last",.int ((bL D ms).2.getLastD 0)),("writing",.bl false),("holders",.ref hd),("now",.int 0)]):=aE
  have k13:=base (G':=upd H12 qu (.ins A.queue dx (cA "now" (.int 0) [("disk",.ref dk),("most",.int most),("hold",.int hold),("tries",.int tries),("book",.ref bk),("first",.int ((bL D ms).2.headD 0)),("last",.int ((bL D ms).2.getLastD 0)),("writing",.bl false),("holders",.ref hd)]))) k12 rfl
  have gh13:upd H12 qu (.ins A.queue dx (cA "now" (.int 0) [("disk",.ref dk),("most",.int most),("hold",.int hold),("tries",.int tries),("book",.ref bk),("first",.int ((bL D ms).2.headD 0)),("last",.int ((bL D ms).2.getLastD 0)),("writing",.bl false),("holders",.ref hd)])) hd=some (.dK []):=by rw[aG nhq]; exact gh12
  generalize upd H12 qu (.ins A.queue dx (cA "now" (.int 0) [("disk",.ref dk),("most",.int most),("hold",.int hold),("tries",.int tries),("book",.ref bk),("first",.int ((bL D ms).2.headD 0)),("last",.int ((bL D ms).2.getLastD 0)),("writing",.bl false),("holders",.ref hd)]))=H13 at h13 k13 gh13 ⊢
  have t13:gC H7 H13:=fun b xs e=>k13 b _ e (fun z=>by rw[z,h7]at e; cases e)
  obtain⟨db,hb1⟩:=hB7.self
  obtain⟨kb,hb2,_⟩:=hB7.ent
  obtain⟨pb,hb3,_⟩:=hB7.par
  obtain⟨dc,hc1⟩:=hB6.self
  obtain⟨kc,hc2,_⟩:=hB6.ent
  obtain⟨pc,hc3,_⟩:=hB6.par
  have nh:∀ {c:Addr} {o:HO},H7 c=some o->hd≠c:=fun e z=>by rw[z,e]at hh7; cases hh7
  have nhd:¬ own dk df kvs' hd:=fun z=>by
   obtain⟨o,e⟩:=j3 hD7 z
   rw[hh7]at e
   cases e
  have hh0:H hd=none\/own dk df kvs hd:=by
   by_cases y:own dk df kvs hd
   ·exact .inr y
   ·refine .inl ?_
    cases e:H hd with
    | none=>rfl
    | some o=>rw[b7 _ _ e nhq y]at hh7; cases hh7
  refine qq ⟨qu,dk,df,bk,de,dp,hd,kvs'⟩ H13 rfl rfl (fun b o e nb no=>k13 b o (b7 b o e nb no) nb) (fun b hb=>?_) ⟨⟨dx,h13⟩,hD7.keep (fun c o e hc=>k13 c o e (fun z=>by rw[z]at hc; exact nqu' hc)),hB7.keep (fun c o e hc=>k13 c o e (fun z=>?_)) t13,⟨[],gh13,trivial⟩,fun b hb=>?_,⟨fun z=>?_,nqu'⟩,⟨nhq,fun z=>?_,nhd⟩⟩
  ·rcases hb with z | z | (z | z | z) | z
   ·exact .inl z
   ·rcases hh0 with y | y
    ·exact .inr (.inr (by rw[z]; exact y))
    ·exact .inr (.inl (by rw[z]; exact y))
   ·exact .inr (.inr (by rw[z]; exact ibk))
   ·exact .inr (.inr (by rw[z]; exact ide))
   ·exact .inr (.inr (by rw[z]; exact idp))
   ·rcases w7 b z with y | y
    ·exact .inr (.inl y)
    ·by_cases x:b=qu
     ·exact .inl x
     ·refine .inr (.inr ?_)
      cases e:H b with
      | none=>rfl
      | some o=>rw[b6 b o e x]at y; cases y
  ·rw[z]at hc
   rcases hc with y | y | y
   ·exact nbk y.symm
   ·exact nde y.symm
   ·exact ndp y.symm
  ·rcases hb with z | z | z
   ·exact nbk' (by rw[z]; exact hc1) (by rw[z]; exact ibk)
   ·exact nbk' (by rw[z]; exact hc2) (by rw[z]; exact ide)
   ·exact nbk' (by rw[z]; exact hc3) (by rw[z]; exact idp)
  ·rcases z with y | y | y
   ·exact nbk y.symm
   ·exact nde y.symm
   ·exact ndp y.symm
  ·rcases z with y | y | y
   ·exact nh hb1 y
   ·exact nh hb2 y
   ·exact nh hb3 y
end
end Qh
end
section
namespace Qh
open PySem L2
theorem sC (r:Rw) (rs:List Rw):cH (r::rs)=iR r.1 r.2.1 r.2.2++cH rs:=by
 unfold cH
 rw[List.map_cons,List.flatten_cons]
theorem yQ {n m:Int} (hn:cR n) (hm:cR m) (e:aN n=aN m):n=m:=by
 have h1:=PySem.W.KIN.num_reads hn.1 (Int.lt_of_lt_of_le hn.2 (by decide))
 have h2:=PySem.W.KIN.num_reads hm.1 (Int.lt_of_lt_of_le hm.2 (by decide))
 have e':Str.ofString (toString n)=Str.ofString (toString m):=by rw[<- oV n,<- oV m,e]
 rw[e']at h1
 exact Option.some.inj (h1.symm.trans h2)
theorem zE {fs:List (Str × List Int)} {n:Str} (h:n ∉ fs.map (·.1)):aI fs n=none:=by
 unfold aI
 rw[Option.map_eq_none_iff,List.find?_eq_none]
 intro p hp z
 exact h (by rw[<- of_decide_eq_true z]; exact List.mem_map_of_mem hp)
theorem A2 (fs:List (Str × List Int)) {n x:Str} (h:x≠n):aI (fH fs n) x=aI fs x:=by
 unfold aI fH
 congr 1
 rw[List.find?_filter]
 congr 1
 funext p
 by_cases y:p.1=x
 ·rw[decide_eq_true y,decide_eq_true (show p.1≠n from fun w=>h (y.symm.trans w))]
  rfl
 ·rw[decide_eq_false y]
  exact decide_eq_false (fun w=>by cases w.2)
theorem E4 {es:List (Int × Ent)} {n:Int} (e:Ent) (h:∀ p∈es,p.1<n):iZ es n e=es++[(n,e)]:=by
 unfold iZ
 rw[if_neg]
 rw[List.any_eq_true]
 rintro ⟨p,hp,z⟩
 have:=h p hp
 have:=of_decide_eq_true z
 omega
theorem FZ {B:Bk} {n:Int} (l:Int) (b:List Int) (hp:B.parts=[]) (hk:∀ p∈B.es,p.1<n) (hu:B.up=n):dF l B [("put",n,b)]=some ⟨B.es++[(n,(b,0,l))],n+1,[]⟩:=by
 show (match dG B "put" n b l with | none=>none | some B'=>some B')=_
 have:dG B "put" n b l=some ⟨B.es++[(n,(b,0,l))],n+1,[]⟩:=by
  unfold dG
  rw[if_neg (by decide),if_neg (by decide),if_neg (fun y=>y hp),if_pos rfl]
  unfold nT
  rw[if_neg (by omega),E4 _ hk,hp]
 rw[this]
theorem CS (n:Int) (e:Ent) (r:List (Int × Ent)):dQ ((n,e)::r) n=some e:=by
 unfold dQ
 rw[List.find?_cons,decide_eq_true rfl]
 rfl
theorem EB {e:Ent} {r:List (Int × Ent)} {n up:Int} (l:Int) (h:∀ p∈r,p.1≠n):dF l ⟨(n,e)::r,up,[]⟩ [("done",n,[])]=some ⟨r,up,[]⟩:=by
 show (match dG ⟨(n,e)::r,up,[]⟩ "done" n [] l with | none=>none | some B'=>some B')=_
 have:dG ⟨(n,e)::r,up,[]⟩ "done" n [] l=some ⟨r,up,[]⟩:=by
  unfold dG
  rw[if_neg (by decide),if_neg (by decide),if_neg (fun y=>y rfl),if_neg (by decide),if_neg (by decide),if_neg (by decide)]
  show (match dQ ((n,e)::r) n with | none=>_ | some e=>_)=_
  rw[CS]
  dsimp only
  rw[if_neg (by decide),if_neg (by decide)]
  have:iB ((n,e)::r) n=r:=by
   unfold iB
   rw[List.filter_cons,if_neg (by simp),List.filter_eq_self.mpr (fun p hp=>decide_eq_true (h p hp))]
  rw[this]
 rw[this]
theorem tY (k:Str) (n:Int):(cH [(k,n,[])]).length=7:=by
 rw[sC,List.length_append,dM]
 rfl
structure Sz (q:Qs) (n:Nat):Prop where
 left:q.D.left=none
 f0:0<=q.first
 top:q.last<=(n:Int)
 keys:∃ k:Nat,q.last=q.first+(k:Int)/\q.D.fs.map (·.1)=(List.range (k+1)).map fun(i:Nat)=>aN (q.first+(i:Int))
 len:∀ x bs,aI q.D.fs x=some bs->(bs.length:Int)<=q.most+9
 m8:8<=q.most
 m67:q.most<=67
section
variable {q:Qs} {n:Nat}
theorem Sz.here (h:Sz q n):∃ bs,aI q.D.fs (aN q.last)=some bs:=by
 obtain⟨k,e,ky⟩:=h.keys
 refine lC ?_
 rw[ky,List.mem_map]
 exact⟨k,List.mem_range.mpr (by omega),by rw[e]⟩
theorem Sz.wok (h:Sz q n) (hn:n<=600) {m:Nat} (hu:0<=q.B.up) (he:q.B.es.length+q.B.parts.length+m<900):WOk q m:=by
 obtain⟨k,e,ky⟩:=h.keys
 have f0:=h.f0
 have top:=h.top
 have m67:=h.m67
 refine⟨h.left,⟨by omega,by omega⟩,⟨by omega,by omega⟩,h.here,zE ?_,fun x bs y=>?_,?_,hu,he⟩
 ·rw[ky,List.mem_map]
  rintro ⟨i,hi,y⟩
  rw[List.mem_range]at hi
  have:=yQ ⟨by omega,by omega⟩ ⟨by omega,by omega⟩ y
  omega
 ·have:=h.len x bs y
  omega
 ·have:=congrArg List.length ky
  rw[List.length_map,List.length_map,List.length_range]at this
  omega
theorem Sz.step (h:Sz q n) (hn:n<=600) (hu:0<=q.B.up) (hu9:q.B.up<=999999) (he:q.B.es.length+q.B.parts.length<800) {bs:List Int} (hl:bs.length<=10) (B':Bk) (hs:List (Int × (Str × Int))):Sz { yI (a7 q) bs B' with hs:=hs } (n+1)/\(a7 q).last<=(n:Int)+1:=by
 have wok:=h.wok hn (m:=0) hu (by omega)
 obtain⟨k,e,ky⟩:=h.keys
 have m8:=h.m8
 have m67:=h.m67
 have nx:Sz (a7 q) (n+1)/\∃ b0,aI (a7 q).D.fs (aN (a7 q).last)=some b0/\(b0.length:Int)<(a7 q).most:=by
  obtain⟨b0,hb0⟩:=h.here
  have hlast:gF q=b0:=by unfold gF; rw[hb0]; rfl
  unfold a7
  split
  ·refine⟨⟨rfl,h.f0,by show q.last+1<=_; have:=h.top; omega,⟨k+1,by show q.last+1=q.first+((k+1:Nat):Int); omega,?_⟩,fun x bs y=>?_,m8,m67⟩,iR "from" q.B.up [],?_,by rw[dM]; show ((7+0:Nat):Int)<q.most; omega⟩
   ·show (cX (q.D.fs++[(aN (q.last+1),[])]) _ _).map (·.1)=_
    rw[iX,List.map_append,ky,List.range_succ (n:=k+1),List.map_append,e]
    show _++[aN (q.first+(k:Int)+1)]=_++[aN (q.first+((k+1:Nat):Int))]
    rw[show q.first+(k:Int)+1=q.first+((k+1:Nat):Int) by omega]
    rfl
   ·rw[j9 q wok.new]at y
    split at y
    ·cases y
     rw[dM]
     show ((7+0:Nat):Int)<=q.most+9
     omega
    ·exact h.len x bs y
   ·rw[j9 q wok.new]
    exact if_pos rfl
  ·rename_i hf
   refine⟨⟨h.left,h.f0,Int.le_trans h.top (by omega),⟨k,e,ky⟩,h.len,m8,m67⟩,b0,hb0,?_⟩
   rw[hlast]at hf
   unfold vR at hf
   rw[Bool.and_eq_true,not_and]at hf
   have:=hf (by rw[Bool.not_eq_true',decide_eq_false_iff_not]; omega)
   rw[decide_eq_true_eq]at this
   omega
 obtain⟨sn,b0,hb0,hb1⟩:=nx
 obtain⟨k',e',ky'⟩:=sn.keys
 have hlast:gF (a7 q)=b0:=by unfold gF; rw[hb0]; rfl
 refine⟨⟨rfl,sn.f0,sn.top,⟨k',e',?_⟩,fun x bs' y=>?_,sn.m8,sn.m67⟩,by have:=sn.top; omega⟩
 ·show (cX (a7 q).D.fs _ _).map (·.1)=_
  rw[iX]
  exact ky'
 ·have y:aI (cX (a7 q).D.fs (aN (a7 q).last) (gF (a7 q)++bs)) x=some bs':=y
  rw[sX,hb0,hlast]at y
  split at y
  ·cases y
   rw[List.length_append]
   show (((b0.length+bs.length:Nat)):Int)<=(a7 q).most+9
   omega
  ·exact sn.len x bs' y
theorem Sz.drop (h:Sz q n) (hn:n<=600) (hlt:q.first<q.last):q.D.left=none/\cR q.first/\(∃ bs,aI q.D.fs (aN q.first)=some bs)/\Sz (Be q) n:=by
 obtain⟨k,e,ky⟩:=h.keys
 have f0:=h.f0
 have top:=h.top
 obtain⟨k',rfl⟩:∃ k',k=k'+1:=⟨k - 1,by omega⟩
 have ne:∀ i:Nat,i<k'+1->aN (q.first+1+(i:Int))≠aN q.first:=fun i hi y=>by
  have:=yQ ⟨by omega,by omega⟩ ⟨by omega,by omega⟩ y
  omega
 refine⟨h.left,⟨by omega,by omega⟩,lC ?_,⟨rfl,by show 0<=q.first+1; omega,h.top,⟨k',by show q.last=q.first+1+_; omega,?_⟩,fun x bs y=>?_,h.m8,h.m67⟩⟩
 ·rw[ky,List.mem_map]
  exact⟨0,List.mem_range.mpr (by omega),by rw[show q.first+((0:Nat):Int)=q.first by omega]⟩
 ·show (fH q.D.fs (aN q.first)).map (·.1)=_
  have e1:(fH q.D.fs (aN q.first)).map (·.1)=(q.D.fs.map (·.1)).filter fun x=>decide (x≠aN q.first):=by
   unfold fH
   rw[List.filter_map]
   rfl
  rw[e1,ky,List.range_succ_eq_map,List.map_cons,List.filter_cons,if_neg (by simp),List.map_map,List.filter_eq_self.mpr]
  ·apply List.map_congr_left
   intro i _
   show aN (q.first+((i+1:Nat):Int))=aN (q.first+1+(i:Int))
   rw[show q.first+((i+1:Nat):Int)=q.first+1+(i:Int) by omega]
  ·intro x hx
   rw[List.mem_map]at hx
   obtain⟨i,hi,rfl⟩:=hx
   rw[List.mem_range]at hi
   refine decide_eq_true ?_
   have:=ne i hi
   show aN (q.first+((i+1:Nat):Int))≠aN q.first
   rw[show q.first+((i+1:Nat):Int)=q.first+1+(i:Int) by omega]
   exact this
 ·have y:aI (fH q.D.fs (aN q.first)) x=some bs:=y
  by_cases z:x=aN q.first
  ·subst z
   have:aI (fH q.D.fs (aN q.first)) (aN q.first)=none:=zE (by
    unfold fH
    rw[List.mem_map]
    rintro ⟨p,hp,ep⟩
    have:=of_decide_eq_true (List.mem_filter.mp hp).2
    exact this ep)
   rw[this]at y
   cases y
  ·rw[A2 _ z]at y
   exact h.len x bs y
end
end Qh
end
section
namespace Qh
open PySem L2
noncomputable abbrev AX:Stmt:=top 61
noncomputable abbrev AR:Stmt:=top 62
noncomputable abbrev rZ:Stmt:=top 64
noncomputable def BQ (x k:Int):Int:=((x * 1103515245+7919 * k+12345) % 2147483647) ^ 5 % 2147483647
theorem GF {a b:Int} (h:0<=a) (h2:a<2147483647):a.natAbs<2 ^ 64:=by omega
noncomputable def wL (K:PySem.W.Frag):Sp:=fun vs H Q _=>∃ (a:Addr) (ns:List Int) (k:Int),vs=[.ref a,.int k]/\0<=k/\SqL K H a (ns.map V.int)/\Q (.int (ns.getD k.toNat 0)) H
noncomputable def wG:Sp:=fun vs H Q _=>∃ (x k:Int),vs=[.int x,.int k]/\Q (.int (BQ x k)) H
section
variable {P:Program} {w:World} {K:PySem.W.Frag} {mg:Str->Option Value} {base:Heap} {a_KINDS C_BadRow:Addr} {A:Ad}
theorem wS:FnScope ["_law_script","_law_k"] ["_law_script","_law_k"] (aH AX):=‹0›
theorem FO {f:Addr} {fd:FuncData} (F:Fun K "_law_cell" "_law_cell" AX f fd) (T:TxtQ K mg A):‹7› 1 f fd ["_law_script","_law_k"] (wL K):=by
 refine F.okX wS (fun vs H Q E h=>?_) (fun cdv A' outer s H vs Q E hr h=>?_)
 ·obtain⟨a,ns,k,rfl,_⟩:=h
  rfl
 ·obtain⟨a,ns,k,rfl,k0,hs,q⟩:=h
  refine⟨_,@aA _ _ _ _ _ (@a9 _ _ _ _ _ _ _ _ (@aS _ _ _ _ _ _ _ _ vE ‹18› ‹32› (aX _)) (@aC _ _ _ (@bA _ _ _ _ (@c8 _ _ _ _ _ _ _ (eM K) ‹17› ‹18› (fun _ _=>rfl)))) (@aP _)) (@aC _ _ _ (@bA _ _ _ _ ‹21›)),?_⟩
  refine⟨_,rfl,_,rfl,a,_,rfl,.inl hs,_,_,rfl,rfl,_,rfl,?_⟩
  rw[List.length_map]
  show if decide (k<(ns.length:Int))=true then _ else _
  by_cases hk:k<(ns.length:Int)
  ·rw[if_pos (decide_eq_true hk)]
   have hl:k.toNat<ns.length:=by omega
   have eg:ns.getD k.toNat 0=ns[k.toNat]:=by
    rw[List.getD_eq_getElem?_getD,List.getElem?_eq_getElem hl]
    rfl
   rw[eg]at q
   exact⟨_,rfl,_,rfl,a,_,_,_,rfl,rfl,hs,bY k0 (by rw[List.getElem?_map,List.getElem?_eq_getElem hl]; rfl),q⟩
  ·rw[if_neg (by simpa using hk)]
   have eg:ns.getD k.toNat 0=0:=by
    rw[List.getD_eq_getElem?_getD,List.getElem?_eq_none (by omega)]
    rfl
   rw[eg]at q
   exact q
theorem wQ:FnScope ["_law_seed_here","_law_k"] ["_law_seed_here","_law_k"] (aH AR):=‹0›
theorem FI {f:Addr} {fd:FuncData} (F:Fun K "_law_seed" "_law_seed" AR f fd):‹7› 1 f fd ["_law_seed_here","_law_k"] wG:=by
 refine F.okX wQ (fun vs H Q E h=>?_) (fun cdv A' outer s H vs Q E hr h=>?_)
 ·obtain⟨x,k,rfl,_⟩:=h
  rfl
 ·obtain⟨x,k,rfl,q⟩:=h
  refine⟨_,@aC _ _ _ (@bA _ _ _ _ (@bO _ _ _ _ _ _ _ _ j4 (@bO _ _ _ _ _ _ _ _ GO (@bO _ _ _ _ _ _ _ _ j4 (@bO _ _ _ _ _ _ _ _ cZ (@bO _ _ _ _ _ _ _ _ cZ (@bO _ _ _ _ _ _ _ _ pN ‹17› ‹21›) (@bO _ _ _ _ _ _ _ _ pN ‹21› ‹18›)) ‹21›) ‹21›) ‹21›) ‹21›)),?_⟩
  have e1:=Int.emod_nonneg (x * 1103515245+7919 * k+12345) (show (2147483647:Int)≠0 by decide)
  have e2:=Int.emod_lt_of_pos (x * 1103515245+7919 * k+12345) (show (0:Int)<2147483647 by decide)
  refine⟨_,rfl,_,_,rfl,rfl,.inr ⟨by decide,by decide⟩,_,rfl,_,_,rfl,rfl,.inl ⟨by decide,by decide⟩,_,_,rfl,rfl,_,_,rfl,rfl,_,_,rfl,rfl,(by show (0:Int)<2147483647; decide),_,_,rfl,rfl,⟨by decide,by decide,GF (b:=0) e1 e2⟩,_,_,rfl,rfl,(by show (0:Int)<2147483647; decide),?_⟩
  exact q
end
structure DiskGood (D:Dk) (ns ms:List Int) (B:Bk):Prop where
 left:D.left=none
 ok:DiskOk D ns
 perm:List.Perm ms ns
 pw:ms.Pairwise (· <= ·)
 gap:iH ms
 read:∀ bs,aI D.fs (aN (ms.getLastD 0))=some bs->dN (bs.length+1) bs≠none
 book:oF D (ms.getLastD 0) ms ⟨[],0,[]⟩=some B
noncomputable def oP (A:Ad):Sp:=fun vs H Q _=>∃ (dk df p:Addr) (kvs:List (Key × V)) (D:Dk) (ns ms:List Int) (B:Bk) (m h t:Int),vs=[.ref dk,.ref p]/\H p=some (.tup [.int m,.int h,.int t])/\1<=m/\m<=2000/\0<=h/\h<=99/\1<=t/\t<=9/\DiskAt A.disk H dk df kvs D/\DiskGood D ns ms B/\
 ∀ L' H',L'.dk=dk->(∀ b o,H b=some o->¬ own dk df kvs b->H' b=some o)->(∀ b,mZ L' b->own dk df kvs b\/H b=none)->QueueW A H' L' (tH D ms B m h t) false->Q (.ref L'.qu) H'
section
variable {P:Program} {w:World} {K:PySem.W.Frag} {mg:Str->Option Value} {base:Heap} {A:Ad}
theorem uE:FnScope ["_law_disk","_law_settings"] ["_law_disk","_law_settings"] (aH rZ):=‹0›
set_option maxHeartbeats 1000000 in
theorem CJ {f:Addr} {fd:FuncData} (F:Fun K "_law_queue" "_law_queue" rZ f fd) (c_Queue:Maker P w K mg base "Queue" A.queue 8 ["self","disk","most","hold","tries"] (oM A)):‹7› 10 f fd ["_law_disk","_law_settings"] (oP A):=by
 refine F.okX uE (fun vs H Q E h=>?_) (fun cdv A' outer s H vs Q E hr h=>?_)
 ·obtain⟨dk,df,p,kvs,D,ns,ms,B,m,h,t,rfl,_⟩:=h
  rfl
 ·obtain⟨dk,df,p,kvs,D,ns,ms,B,m,h,t,rfl,gp,m0,m1,h0,h1,t0,t1,hD,dg,qq⟩:=h
  refine⟨_,@aC _ _ _ (@bA _ _ _ _ (@Fp _ _ _ _ _ _ _ _ _ _ _ _ c_Queue ‹12› aW (@aD _ _ _ _ _ _ ‹17› (@aM _ _ _ _ _ _ _ ‹29› (@aM _ _ _ _ _ _ _ ‹29› (@aM _ _ _ _ _ _ _ ‹29› (@aB _))))) ⋯ ⋯ ⋯ ⋯)),?_⟩
  refine⟨_,rfl,_,rfl,p,_,_,.int m,rfl,rfl,SqT.of gp,bY (by decide) rfl,_,rfl,p,_,_,.int h,rfl,rfl,SqT.of gp,bY (by decide) rfl,_,rfl,p,_,_,.int t,rfl,rfl,SqT.of gp,bY (by decide) rfl,fun qu dx hqu hdx ndx=>?_⟩
  have fr:∀ {c o},H c=some o->upd (upd H dx (.own qu)) qu (.ins A.queue dx []) c=some o:=fun {c o} e=>by
   rw[aG (aY e hqu),aG (aY e hdx)]
   exact e
  have hst:uZ (.int m) (.int h) (.int t)=true:=by
   unfold uZ
   simp only[bH,Bool.and_eq_true,decide_eq_true_eq]
   omega
  have nqu:¬ own dk df kvs qu:=fun z=>by
   obtain⟨o,e⟩:=j3 hD z
   rw[hqu]at e
   cases e
  have back:∀ {c},upd (upd H dx (.own qu)) qu (.ins A.queue dx []) c=none->H c=none:=fun {c} e=>by
   cases e2:H c with
   | none=>rfl
   | some o=>rw[fr e2]at e; cases e
  refine⟨qu,dx,dk,df,kvs,D,ns,ms,B,m,h,t,rfl,aE,hD.keep (fun b o e _=>fr e),nqu,hst,dg.left,dg.ok,dg.perm,dg.pw,dg.gap,dg.read,dg.book,fun L' H' eq ed f g hq=>⟨rfl,?_⟩⟩
  subst eq
  refine qq L' H' ed (fun b o e nb=>f b o (fr e) (aY e hqu) nb) (fun b hb=>?_) hq
  rcases g b hb with z | z | z
  ·rw[z]
   exact .inr hqu
  ·exact .inl z
  ·exact .inr (back z)
end
noncomputable abbrev AT:Stmt:=top 63
noncomputable def BS (x m:Int):Int:=x / 97 % m
noncomputable def wH:Sp:=fun vs H Q _=>∃ (x m:Int),vs=[.int x,.int m]/\0<m/\Q (.int (BS x m)) H
section
variable {P:Program} {w:World} {K:PySem.W.Frag} {mg:Str->Option Value} {base:Heap} {A:Ad}
theorem wR:FnScope ["_law_seed_here","_law_many"] ["_law_seed_here","_law_many"] (aH AT):=‹0›
theorem FK {f:Addr} {fd:FuncData} (F:Fun K "_law_pick" "_law_pick" AT f fd):‹7› 1 f fd ["_law_seed_here","_law_many"] wH:=by
 refine F.okX wR (fun vs H Q E h=>?_) (fun cdv A' outer s H vs Q E hr h=>?_)
 ·obtain⟨x,k,rfl,_⟩:=h
  rfl
 ·obtain⟨x,m,rfl,m0,q⟩:=h
  refine⟨_,@aC _ _ _ (@bA _ _ _ _ (@bO _ _ _ _ _ _ _ _ j4 (@bO _ _ _ _ _ _ _ _ xH ‹17› ‹21›) ‹18›)),?_⟩
  exact⟨_,rfl,_,_,rfl,rfl,⟨by decide,by decide⟩,_,rfl,_,_,rfl,rfl,m0,q⟩
end
end Qh
end
section
namespace Qh
open PySem L2
theorem lU {es:List (Int × Ent)} {n:Int} (e:Ent) (h:∀ p∈es,p.1≠n):dQ (es++[(n,e)]) n=some e:=by
 unfold dQ
 have h0:es.find? (fun p=>decide (p.1=n))=none:=by
  rw[List.find?_eq_none]
  intro p hp y
  exact h p hp (of_decide_eq_true y)
 rw[List.find?_append,h0,List.find?_cons,decide_eq_true rfl]
 rfl
theorem De {es:List (Int × Ent)} {b:List Int} {t s n up:Int} (l:Int) (h:∀ p∈es,p.1≠n):dF l ⟨es++[(n,(b,t,s))],up,[]⟩ [("out",n,[])]=some ⟨es++[(n,(b,t+1,s))],up,[]⟩:=by
 show (match dG ⟨es++[(n,(b,t,s))],up,[]⟩ "out" n [] l with | none=>none | some B'=>some B')=_
 have:dG ⟨es++[(n,(b,t,s))],up,[]⟩ "out" n [] l=some ⟨es++[(n,(b,t+1,s))],up,[]⟩:=by
  unfold dG
  rw[if_neg (by decide),if_neg (by decide),if_neg (fun y=>y rfl),if_neg (by decide),if_neg (by decide),if_neg (by decide)]
  show (match dQ (es++[(n,(b,t,s))]) n with | none=>_ | some e=>_)=_
  rw[lU _ h]
  dsimp only
  rw[if_pos rfl]
  have:iZ (es++[(n,(b,t,s))]) n (b,t+1,s)=es++[(n,(b,t+1,s))]:=by
   unfold iZ
   rw[if_pos (by rw[List.any_append,List.any_cons,decide_eq_true rfl,Bool.true_or,Bool.or_true]),List.map_append]
   congr 1
   ·rw[List.map_congr_left (g:=id) (fun p hp=>by rw[if_neg (h p hp)]; rfl),List.map_id]
   ·rw[List.map_cons,if_pos rfl]
    rfl
  rw[this]
 rw[this]
theorem Cl {es:List (Int × Ent)} {e:Ent} {n up:Int} (l:Int) (h:∀ p∈es,p.1≠n):dF l ⟨es++[(n,e)],up,[]⟩ [("done",n,[])]=some ⟨es,up,[]⟩:=by
 show (match dG ⟨es++[(n,e)],up,[]⟩ "done" n [] l with | none=>none | some B'=>some B')=_
 have:dG ⟨es++[(n,e)],up,[]⟩ "done" n [] l=some ⟨es,up,[]⟩:=by
  unfold dG
  rw[if_neg (by decide),if_neg (by decide),if_neg (fun y=>y rfl),if_neg (by decide),if_neg (by decide),if_neg (by decide)]
  show (match dQ (es++[(n,e)]) n with | none=>_ | some e=>_)=_
  rw[lU _ h]
  dsimp only
  rw[if_neg (by decide),if_neg (by decide)]
  have:iB (es++[(n,e)]) n=es:=by
   unfold iB
   rw[List.filter_append,List.filter_cons,if_neg (by simp),List.filter_nil,List.append_nil,List.filter_eq_self.mpr (fun p hp=>decide_eq_true (h p hp))]
  rw[this]
 rw[this]
theorem A3 {hs:List (Int × (Str × Int))} {n:Int} (e:Str × Int) (h:∀ p∈hs,p.1≠n):fA (hs++[(n,e)]) n=some e/\qA (hs++[(n,e)]) n=hs:=by
 have h0:hs.find? (fun p=>decide (p.1=n))=none:=by
  rw[List.find?_eq_none]
  intro p hp y
  exact h p hp (of_decide_eq_true y)
 constructor
 ·unfold fA
  rw[List.find?_append,h0,List.find?_cons,decide_eq_true rfl]
  rfl
 ·unfold qA
  rw[List.filter_append,List.filter_cons,if_neg (by simp),List.filter_nil,List.append_nil,List.filter_eq_self.mpr (fun p hp=>decide_eq_true (h p hp))]
theorem qW {α : Type} {l:List (Int × α)} {ks:List Int} {n:Int} (e:l.map (·.1)=ks) (h:∀ k∈ks,k<n):∀ p∈l,p.1≠n:=fun p hp=>by
 have:=h p.1 (by rw[<- e]; exact List.mem_map_of_mem hp)
 omega
structure Qz (q:Qs) (ks:List Int) (up:Int) (n:Nat):Prop where
 sz:Sz q n
 bk:∃ es,q.B=⟨es,up,[]⟩/\es.map (·.1)=ks
 hk:q.hs.map (·.1)=ks
 ha:∀ p∈q.hs,p.2.1=("a" : Str)
 tr:q.tries=9
 so:ks.Pairwise (· < ·)
 lt:∀ k∈ks,0<=k/\k<up
 fw:ks.length<=60
 u0:0<=up/\up<=1000
structure Qp (q:Qs) (t:Int) (hs0:List (Int × (Str × Int))) (ks:List Int) (m:Int) (n:Nat):Prop where
 sz:Sz q n
 bk:∃ es b l,q.B=⟨es++[(m,(b,t,l))],m+1,[]⟩/\es.map (·.1)=ks
 hk:hs0.map (·.1)=ks
 ha:∀ p∈hs0,p.2.1=("a" : Str)
 tr:q.tries=9
 so:ks.Pairwise (· < ·)
 lt:∀ k∈ks,0<=k/\k<m
 fw:ks.length<=59
 u0:0<=m/\m<=999
section
variable {q:Qs} {ks:List Int} {up m t:Int} {n:Nat} {hs0:List (Int × (Str × Int))}
theorem Qz.len (h:Qz q ks up n):q.B.es.length=ks.length/\q.B.up=up/\q.B.parts=[]/\q.B.es.map (·.1)=ks:=by
 obtain⟨es,e,ek⟩:=h.bk
 rw[e]
 refine⟨?_,rfl,rfl,ek⟩
 show es.length=_
 rw[<- ek,List.length_map]
theorem Qp.len (h:Qp q t hs0 ks m n):q.B.es.length=ks.length+1/\q.B.up=m+1/\q.B.parts=[]/\q.B.es.map (·.1)=ks++[m]:=by
 obtain⟨es,b,l,e,ek⟩:=h.bk
 rw[e]
 refine⟨?_,rfl,rfl,?_⟩
 ·show (es++[(m,(b,t,l))]).length=_
  rw[List.length_append,<- ek,List.length_map]
  rfl
 ·show (es++[(m,(b,t,l))]).map (·.1)=_
  rw[List.map_append,ek]
  rfl
theorem Qz.put (h:Qz q ks m n) (hn:n<=500) (hk9:ks.length<=59) (m9:m<=999) {b:List Int} (bl:b.length<=3):WOk q 1/\∃ B',dF (a7 q).last (a7 q).B [("put",q.B.up,b)]=some B'/\Qp (DS q b B') 0 q.hs ks m (n+1)/\(DS q b B').hs=q.hs:=by
 obtain⟨l1,l2,l3,l4⟩:=h.len
 have u0:=h.u0
 have fw:=h.fw
 obtain⟨es,e,ek⟩:=h.bk
 have nn:=i7 q
 have hf:dF (a7 q).last (a7 q).B [("put",q.B.up,b)]=some ⟨es++[(m,(b,0,(a7 q).last))],m+1,[]⟩:=by
  rw[nn.2.2.2,l2,e]
  exact FZ _ b rfl (fun p hp=>(h.lt p.1 (by rw[<- ek]; exact List.mem_map_of_mem hp)).2) rfl
 have hs1:(DS q b ⟨es++[(m,(b,0,(a7 q).last))],m+1,[]⟩).hs=q.hs:=nn.2.1
 refine⟨h.sz.wok (by omega) (by omega) (by rw[l1,l3]; show ks.length+0+1<900; omega),_,hf,⟨?_,⟨es,b,_,rfl,ek⟩,h.hk,h.ha,nn.2.2.1.trans h.tr,h.so,h.lt,hk9,u0.1,m9⟩,hs1⟩
 have:=(h.sz.step (by omega) (by omega) (by omega) (by rw[l1,l3]; show ks.length+0<800; omega) (bs:=cH [("put",q.B.up,b)]) (by rw[sC,List.length_append,dM]; show 7+b.length+0<=10; omega) (⟨es++[(m,(b,0,(a7 q).last))],m+1,[]⟩:Bk) (DS q b ⟨es++[(m,(b,0,(a7 q).last))],m+1,[]⟩).hs).1
 exact this
theorem Qp.take (h:Qp q 0 q.hs ks m n) (hn:n<=500) (x:Str):mU q (ks++[m])=[m]/\(ks++[m]).Pairwise (· <= ·)/\WOk q 1/\∃ B' e,dF (a7 q).last (a7 q).B [("out",m,[])]=some B'/\dQ B'.es m=some e/\Qp (GN q m x B') (0+1) q.hs ks m (n+1)/\(GN q m x B').hs=q.hs++[(m,(x,q.now))]:=by
 obtain⟨l1,l2,l3,l4⟩:=h.len
 have u0:=h.u0
 have fw:=h.fw
 obtain⟨es,b,l,e,ek⟩:=h.bk
 have nn:=i7 q
 have ne:=qW ek (fun k hk=>(h.lt k hk).2)
 have hf:dF (a7 q).last (a7 q).B [("out",m,[])]=some ⟨es++[(m,(b,0+1,l))],m+1,[]⟩:=by
  rw[nn.2.2.2,e]
  exact De _ ne
 refine⟨?_,?_,h.sz.wok (by omega) (by omega) (by rw[l1,l3]; show ks.length+1+0+1<900; omega),_,_,hf,lU _ ne,⟨?_,⟨es,b,l,rfl,ek⟩,h.hk,h.ha,nn.2.2.1.trans h.tr,h.so,h.lt,fw,u0⟩,rfl⟩
 ·unfold mU
  rw[List.filter_append]
  have f1:ks.filter (lE q.hs)=[]:=by
   rw[List.filter_eq_nil_iff]
   intro k hk y
   unfold lE fA at y
   rw[Option.isNone_map,Option.isNone_iff_eq_none,List.find?_eq_none]at y
   rw[<- h.hk,List.mem_map]at hk
   obtain⟨p,hp,ep⟩:=hk
   exact y p hp (decide_eq_true ep)
  have f2:lE q.hs m=true:=by
   unfold lE fA
   rw[Option.isNone_map,Option.isNone_iff_eq_none,List.find?_eq_none]
   intro p hp y
   exact qW h.hk (fun k hk=>(h.lt k hk).2) p hp (of_decide_eq_true y)
  have f3:jC q.B.es m=0:=by
   unfold jC
   rw[e,lU _ ne]
   rfl
  rw[f1,List.nil_append,List.filter_cons,if_pos f2,List.filter_nil,List.filter_cons,if_pos (by rw[f3,h.tr]; decide),List.filter_nil]
 ·rw[List.pairwise_append]
  refine⟨h.so.imp (fun a=>by omega),List.pairwise_singleton _ _,fun a ha b hb=>?_⟩
  rw[List.mem_singleton.mp hb]
  have:=h.lt a ha
  omega
 ·exact(h.sz.step (by omega) (by omega) (by omega) (by rw[l1,l3]; show ks.length+1+0<800; omega) (bs:=cH [("out",m,[])]) (by rw[tY]; decide) _ _).1
theorem Qp.done (h:Qp q t hs0 ks m n) (hn:n<=500) {x:Str} {tm:Int} (eh:q.hs=hs0++[(m,(x,tm))]):fA q.hs m=some (x,tm)/\WOk q 1/\∃ B',dF (a7 q).last (a7 q).B [("done",m,[])]=some B'/\Qz (zT q m B') ks (m+1) (n+1):=by
 obtain⟨l1,l2,l3,l4⟩:=h.len
 have u0:=h.u0
 have fw:=h.fw
 obtain⟨es,b,l,e,ek⟩:=h.bk
 have nn:=i7 q
 have ne:=qW ek (fun k hk=>(h.lt k hk).2)
 have hl:=A3 (n:=m) (x,tm) (qW h.hk (fun k hk=>(h.lt k hk).2))
 have hf:dF (a7 q).last (a7 q).B [("done",m,[])]=some ⟨es,m+1,[]⟩:=by
  rw[nn.2.2.2,e]
  exact Cl _ ne
 have hd:(zT q m ⟨es,m+1,[]⟩).hs=hs0:=by
  show qA q.hs m=hs0
  rw[eh]
  exact hl.2
 refine⟨by rw[eh]; exact hl.1,h.sz.wok (by omega) (by omega) (by rw[l1,l3]; show ks.length+1+0+1<900; omega),_,hf,⟨?_,⟨es,rfl,ek⟩,by rw[hd]; exact h.hk,by rw[hd]; exact h.ha,nn.2.2.1.trans h.tr,h.so,fun k hk=>?_,by omega,by omega⟩⟩
 ·exact(h.sz.step (by omega) (by omega) (by omega) (by rw[l1,l3]; show ks.length+1+0<800; omega) (bs:=cH [("done",m,[])]) (by rw[tY]; decide) _ _).1
 ·have:=h.lt k hk
  omega
theorem Qp.keep (h:Qp q t hs0 ks m n) {tm:Int} (eh:q.hs=hs0++[(m,(("a" : Str),tm))]):Qz q (ks++[m]) (m+1) n:=by
 have u0:=h.u0
 have fw:=h.fw
 obtain⟨es,b,l,e,ek⟩:=h.bk
 refine⟨h.sz,⟨_,e,by rw[List.map_append,ek]; rfl⟩,by rw[eh,List.map_append,h.hk]; rfl,fun p hp=>?_,h.tr,?_,fun k hk=>?_,by rw[List.length_append]; show ks.length+1<=60; omega,by omega⟩
 ·rw[eh]at hp
  rcases List.mem_append.mp hp with y | y
  ·exact h.ha p y
  ·rw[List.mem_singleton.mp y]
 ·rw[List.pairwise_append]
  refine⟨h.so,List.pairwise_singleton _ _,fun a ha b hb=>?_⟩
  rw[List.mem_singleton.mp hb]
  exact(h.lt a ha).2
 ·rcases List.mem_append.mp hk with y | y
  ·have:=h.lt k y
   omega
  ·rw[List.mem_singleton.mp y]
   omega
theorem Qz.done {k:Int} (h:Qz q (k::ks) up n) (hn:n<=500):(∃ tm:Int,fA q.hs k=some (("a" : Str),tm))/\WOk q 1/\∃ B',dF (a7 q).last (a7 q).B [("done",k,[])]=some B'/\Qz (zT q k B') ks up (n+1):=by
 obtain⟨l1,l2,l3,l4⟩:=h.len
 have u0:=h.u0
 have fw:=h.fw
 rw[List.length_cons]at l1 fw
 obtain⟨es,e,ek⟩:=h.bk
 have nn:=i7 q
 have so:=List.pairwise_cons.mp h.so
 cases es with
 | nil=>cases ek
 | cons p es'=>
  rw[List.map_cons]at ek
  injection ek with ek1 ek2
  obtain⟨pk,pe⟩:=p
  have ek1:pk=k:=ek1
  subst ek1
  have ne:∀ p∈es',p.1≠pk:=fun p hp=>by
   have:=so.1 p.1 (by rw[<- ek2]; exact List.mem_map_of_mem hp)
   omega
  have hk:=h.hk
  have ha:=h.ha
  cases eh:q.hs with
  | nil=>rw[eh]at hk; cases hk
  | cons r hs'=>
   rw[eh,List.map_cons]at hk
   injection hk with hk1 hk2
   obtain⟨rk,rx,rt⟩:=r
   have hk1:rk=pk:=hk1
   subst hk1
   have hx:rx = "a":=ha (rk,rx,rt) (by rw[eh]; exact List.mem_cons_self)
   subst hx
   have hf:dF (a7 q).last (a7 q).B [("done",rk,[])]=some ⟨es',up,[]⟩:=by
    rw[nn.2.2.2,e]
    exact EB _ ne
   have hd:(zT q rk ⟨es',up,[]⟩).hs=hs':=by
    show qA q.hs rk=hs'
    rw[eh]
    unfold qA
    rw[List.filter_cons,if_neg (by simp),List.filter_eq_self.mpr]
    intro p hp
    have:=so.1 p.1 (by rw[<- hk2]; exact List.mem_map_of_mem hp)
    exact decide_eq_true (by omega)
   refine⟨⟨rt,?_⟩,h.sz.wok (by omega) (by omega) (by rw[l1,l3]; show ks.length+1+0+1<900; omega),_,hf,⟨?_,⟨es',rfl,ek2⟩,by rw[hd]; exact hk2,fun p hp=>ha p (by rw[hd]at hp; rw[eh]; exact List.mem_cons_of_mem _ hp),nn.2.2.1.trans h.tr,so.2,fun k hk=>h.lt k (List.mem_cons_of_mem _ hk),by omega,u0⟩⟩
   ·unfold fA
    rw[List.find?_cons,decide_eq_true rfl]
    rfl
   ·exact(h.sz.step (by omega) (by omega) (by omega) (by rw[l1,l3]; show ks.length+1+0<800; omega) (bs:=cH [("done",rk,[])]) (by rw[tY]; decide) _ _).1
theorem Qz.drop (h:Qz q ks up n) (hn:n<=600) (hlt:q.first<q.last):q.D.left=none/\cR q.first/\(∃ bs,aI q.D.fs (aN q.first)=some bs)/\Qz (Be q) ks up n:=by
 obtain⟨a,b,c,d⟩:=h.sz.drop hn hlt
 exact⟨a,b,c,d,h.bk,h.hk,h.ha,h.tr,h.so,h.lt,h.fw,h.u0⟩
end
end Qh
end
section
namespace Qh
open PySem L2
noncomputable def zK:List Int:=iR "from" 0 []
theorem zD (bs:List Int) (m:Str):aI [(aN 0,bs)] m=if m=aN 0 then some bs else none:=by
 unfold aI
 rw[List.find?_cons]
 by_cases z:m=aN 0
 ·rw[if_pos z,decide_eq_true z.symm]
  rfl
 ·rw[if_neg z,decide_eq_false (fun y=>z y.symm)]
  rfl
theorem Ev (a b:List Int):cX [(aN 0,a)] (aN 0) b=[(aN 0,b)]:=by
 unfold cX
 rw[List.map_cons,if_pos rfl]
 rfl
theorem Cf:∃ d,bL ⟨[],0,none⟩ []=(⟨[(aN 0,zK)],d,none⟩,[0]):=by
 have e1:aI [(aN 0,([]:List Int))] (aN 0)=some []:=by rw[zD,if_pos rfl]
 have e0:(([0]:List Int).getLastD 0)=0:=rfl
 have hm:mkN ⟨[],0,none⟩ (aN 0)=⟨[(aN 0,[])],1,none⟩:=rfl
 unfold bL
 rw[if_pos rfl,hm]
 unfold tI
 rw[e0]
 dsimp only
 have ek:hX []=[]:=rfl
 rw[e1,Option.getD_some,ek,if_neg (fun z=>absurd z.2 (by decide)),if_pos rfl,if_neg (by decide)]
 refine⟨1+7,?_⟩
 show ((⟨cX [(aN 0,[])] (aN 0) (iR "from" 0 []),1+((7:Nat):Int),none⟩:Dk),([0]:List Int))=_
 rw[Ev]
 rfl
theorem Cm:DiskGood ⟨[],0,none⟩ [] [] ⟨[],0,[]⟩:=⟨rfl,⟨rfl,(fun _ h=>by cases h),by decide,(fun n bs e=>by cases e),by decide⟩,List.Perm.refl _,List.Pairwise.nil,.inl rfl,(fun bs e=>by cases e),rfl⟩
theorem Step.keepS {H0 Hc Hn:Hp} {L L':Pl} (st:Step L L' Hc Hn) (S:aF H0 Hc) (fr:∀ b,mZ L b->H0 b=none):aF H0 Hn/\∀ b,mZ L' b->H0 b=none:=by
 refine⟨fun b o e=>st.frm b o (S b o e) (fun z=>by rw[fr b z]at e; cases e),fun b hb=>?_⟩
 rcases st.grow b hb with z | z
 ·exact fr b z
 ·exact S.free z
noncomputable def PEv (σ : St) (H0:Hp) (te:TE) (d:PyData):Prop:=∀ (H:Hp) (Q:VK),aF H0 H->(∀ v H',aF H H'->Den H' d v->Q v H')->te σ H Q
noncomputable def PAv (σ : St) (H0:Hp) (t:TA) (ds:List PyData):Prop:=∀ (H:Hp) (Q:List V->Hp->Prop),aF H0 H->(∀ vs H',aF H H'->aU H' ds vs->Q vs H')->t σ H Q
theorem EG {σ : St} {H0:Hp} {te:TE} {d:PyData} (h:PEd te d):PEv σ H0 te d:=fun H Q _ q=>h σ H Q q
theorem Gh {σ : St} {H0:Hp} {i:Nat} {v:V} {d:PyData} (e:σ[i]? = some (some v)) (h:Den H0 d v):PEv σ H0 (gH i) d:=fun H Q s q=>⟨v,e,q v H (aF.refl H) (h.same s)⟩
theorem Ed {σ : St} {H0:Hp}:PAv σ H0 eQ []:=fun H Q _ q=>q _ H (aF.refl H) (by simp only[aU])
theorem rB {σ : St} {H0:Hp} {te:TE} {t:TA} {d:PyData} {ds:List PyData} (h1:PEv σ H0 te d) (h2:PAv σ H0 t ds):PAv σ H0 (dX te t) (d::ds):=fun H Q s q=>
 h1 H _ s fun v H1 s1 d1=>h2 H1 _ (s.trans s1) fun vs H2 s2 d2=>q _ H2 (s1.trans s2) (by simp only[aU]; exact⟨v,vs,rfl,d1.same s2,d2⟩)
theorem EF {σ : St} {H0:Hp} {t:TA} {ds:List PyData} (hl:ds.length<=sizeLine) (h:PAv σ H0 t ds):PEv σ H0 (tTup t) (.tuple ds):=fun H Q s q=>
 h H _ s fun vs H1 s1 d1=>⟨by rw[d1.length]; exact hl,fun p hp=>q _ _ (s1.trans (aJ hp)) (by simp only[Den]; exact⟨p,vs,rfl,aE,d1.same (aJ hp)⟩)⟩
theorem ES {te:TE} {d:PyData} {σ : St} {H:Hp} {k:List V->Hp->Prop} (h:PEv σ H te d) (q:∀ v H',aF H H'->Den H' d v->k [v] H'):dX te eQ σ H k:=h H _ (aF.refl H) q
theorem ER {σ : St} {H:Hp} {v:V} {k:List V->Hp->Prop} (h:k [v] H):dX (tC v) eQ σ H k:=h
theorem FS {G:Hp} {p1 p2:Addr} {ns:List Int} {Q:VK} (h1:G p1=some (.lst (ns.map V.int))) (h2:G p2=some (.lst (ns.map V.int))) (q:Q (.bl false) G):GD (.ref p1) (.ref p2) G Q:=by
 refine⟨.list (ns.map .int),.list (ns.map .int),?_,?_,eG _,eG _,?_⟩
 ·simp only[Den]
  exact⟨p1,_,rfl,h1,bR.mpr rfl⟩
 ·simp only[Den]
  exact⟨p2,_,rfl,h2,bR.mpr rfl⟩
 rw[pR,decide_eq_true rfl]
 exact q
theorem Dp {G:Hp} {v1 v2:V} {d:PyData} {Q:VK} (h1:Den G d v1) (h2:Den G d v2) (hs:qD d=true) (hd:PyData.depth d<=64) (q:Q (.bl false) G):GD v1 v2 G Q:=by
 refine⟨d,d,h1,h2,uY hs hd,uY hs hd,?_⟩
 rw[zO hs]
 exact q
theorem xX:cN lD 6 (.str "a")=true/\(("a" : Str).length<=1000/\kF "a" = true):=by decide +kernel
theorem D3:cN lD 6 (.str "b")=true/\(("b" : Str).length<=1000/\kF "b" = true):=by decide +kernel
noncomputable def i5 (many:Nat) (b:Nat->Bool):List Int:=((List.range many).filter b).map fun(i:Nat)=>(i:Int)
end Qh
end
section
namespace Qh
open PySem L2
structure Kw (A:Ad) (H:Hp) (L0 pl:Addr) (ls:List Int) (M:Int) (H1:Hp) (L:Pl) (q:Qs):Prop where
 same:aF H H1
 qu:L.qu=L0
 fr:∀ b,mZ L b->H b=none
 qw:QueueW A H1 L q false
 np:¬ mZ L pl
 gl:H1 pl=some (.lst (ls.map V.int))
 mo:q.most=M
theorem lS (q:Qs):(a7 q).most=q.most:=by
 unfold a7
 split <;> rfl
section
variable {A:Ad} {H:Hp} {L0 pl:Addr} {ls:List Int} {M:Int} {H1:Hp} {L:Pl} {q:Qs} {ks:List Int} {up m t:Int} {n:Nat} {Q:V->Hp->Prop} {E:XK}
theorem Kw.sames (k:Kw A H L0 pl ls M H1 L q) {H2:Hp} (s:aF H1 H2):Kw A H L0 pl ls M H2 L q:=⟨k.same.trans s,k.qu,k.fr,k.qw.same s,k.np,s _ _ k.gl,k.mo⟩
theorem Kw.step (k:Kw A H L0 pl ls M H1 L q) {H2:Hp} {L':Pl} {q':Qs} (st:Step L L' H1 H2) (hq:QueueW A H2 L' q' false) (em:q'.most=q.most):Kw A H L0 pl ls M H2 L' q':=by
 obtain⟨s,f⟩:=st.keepS k.same k.fr
 exact⟨s,st.qu.trans k.qu,f,hq,st.not k.gl k.np,st.frm _ _ k.gl k.np,em.trans k.mo⟩
theorem Kw.self (k:Kw A H L0 pl ls M H1 L q):∃ dx,H1 L0=some (.ins A.queue dx (quF L q false)):=by
 obtain⟨dx,h⟩:=k.qw.self
 rw[k.qu]at h
 exact⟨dx,h⟩
theorem BJ (k:Kw A H L0 pl ls M H1 L q) (z:Qz q ks m n) (hn:n<=500) (hk9:ks.length<=59) (m9:m<=999) {b:List Int} {v:V} (bl:b.length<=3) (bok:fV b) (dv:Den H1 (.tuple (b.map .int)) v)
  (go:∀ L' q' H2,Kw A H L0 pl ls M H2 L' q'->Qp q' 0 q'.hs ks m (n+1)->Q (.int m) H2):iU A [.ref L0,v] H1 Q E:=by
 obtain⟨wok,B',hf,qp,hs⟩:=z.put hn hk9 m9 bl
 have l2:=z.len.2.1
 have u0:=z.u0
 have gd:Ea (.tuple (b.map .int))=true:=DD (k:="put") (n:=0) (.inl rfl) (by decide) (by decide) bok (by omega)
 refine⟨L,q,v,.tuple (b.map .int),by rw[k.qu],k.qw,dv,(fun bs e=>by injection e with e; rw[<- e,List.length_map]; omega),(fun y=>by rw[gd]at y; cases y),fun body e hb hl=>?_⟩
 have eb:body=b:=by
  have:=congrArg bD e
  rw[eN,eN]at this
  exact this.symm
 subst eb
 refine⟨wok,by rw[l2]; omega,B',hf,fun L' H2 st hq=>?_⟩
 rw[l2]
 exact go L' _ H2 (k.step st hq (lS q)) (by rw[hs]; exact qp)
theorem uS (k:Kw A H L0 pl ls M H1 L q) (z:Qp q 0 q.hs ks m n) (hn:n<=500) {x:Str} (hx:cN lD 6 (.str x)=true/\(x.length<=1000/\kF x=true))
  (go:∀ p pb tt L' q' H2,Kw A H L0 pl ls M H2 L' q'->Qp q' (0+1) q.hs ks m (n+1)->q'.hs=q.hs++[(m,(x,q.now))]->H2 p=some (.tup [.int m,.ref pb,.int tt])->Q (.ref p) H2):gQ A [.ref L0,.str x] H1 Q E:=by
 obtain⟨r1,r2,wok,B',e,hf,hl,qp,hs⟩:=z.take hn x
 have ln:=z.len
 have fw:=z.fw
 have u0:=z.u0
 have hh:q.hs.length=ks.length:=by rw[<- z.hk,List.length_map]
 refine⟨L,q,x,ks++[m],by rw[k.qu],k.qw,by rw[ln.1]; omega,by omega,hx.1,hx.2,by rw[ln.2.2.2],r2,(fun y=>by rw[r1]at y; cases y),fun n' r er=>?_⟩
 rw[r1]at er
 injection er with em _
 subst em
 refine⟨wok,u0.1,by omega,B',e,hf,hl,fun p L' H2 st hq d=>?_⟩
 obtain⟨t',pb,et,g,_⟩:=nY d
 cases et
 exact go p pb _ L' _ H2 (k.step st hq (lS q)) qp hs g
theorem uT (k:Kw A H L0 pl ls M H1 L q) {hs0:List (Int × (Str × Int))} (z:Qp q t hs0 ks m n) (hn:n<=500) {x:Str} {tm:Int} (eh:q.hs=hs0++[(m,(x,tm))]) (hx:cN lD 6 (.str x)=true/\(x.length<=1000/\kF x=true))
  (go:∀ L' q' H2,Kw A H L0 pl ls M H2 L' q'->Qz q' ks (m+1) (n+1)->Q .non H2):eW A [.ref L0,.str x,.int m] H1 Q E:=by
 obtain⟨hl,wok,B',hf,qz⟩:=z.done hn eh
 have u0:=z.u0
 exact⟨L,q,x,m,tm,B',by rw[k.qu],k.qw,hx.1,hx.2,u0.1,by omega,hl,wok,hf,fun L' H2 st hq=>go L' _ H2 (k.step st hq (lS q)) qz⟩
theorem Bv (k:Kw A H L0 pl ls M H1 L q) {k0:Int} (z:Qz q (k0::ks) up n) (hn:n<=500)
  (go:∀ L' q' H2,Kw A H L0 pl ls M H2 L' q'->Qz q' ks up (n+1)->Q .non H2):eW A [.ref L0,.str "a",.int k0] H1 Q E:=by
 obtain⟨⟨tm,hl⟩,wok,B',hf,qz⟩:=z.done hn
 have u0:=z.u0
 have lt:=z.lt k0 List.mem_cons_self
 exact⟨L,q,"a",k0,tm,B',by rw[k.qu],k.qw,xX.1,xX.2,lt.1,by omega,hl,wok,hf,fun L' H2 st hq=>go L' _ H2 (k.step st hq (lS q)) qz⟩
theorem oH (k:Kw A H L0 pl ls M H1 L q) (z:Qz q ks up n) (hn:n<=500)
  (go:∀ L' q' H2,Kw A H L0 pl ls M H2 L' q'->Qz q' ks up n->q'.last=q.last->(ks=[]->q'.first=q'.last)->Q (.int (q'.first - q.first)) H2):eR A [.ref L0] H1 Q E:=by
 refine⟨L,q,fun q'=>Qz q' ks up n/\q'.last=q.last/\q'.most=q.most,by rw[k.qu],k.qw,⟨z,rfl,rfl⟩,fun q' ⟨z',e',e2⟩=>?_,fun L' q' H2 st hq ⟨z',e',e2⟩ hend=>?_⟩
 ·have:=z'.len.1
  have:=z'.fw
  refine⟨by omega,fun lt _=>?_⟩
  obtain⟨a,b,c,d⟩:=z'.drop (by omega) lt
  exact⟨a,b,c,d,e',e2⟩
 ·refine go L' q' H2 (k.step st hq e2) z' e' fun ek=>?_
  obtain⟨kk,e1,_⟩:=z'.sz.keys
  rcases hend with y | y
  ·omega
  ·exfalso
   apply y
   unfold tO
   rw[z'.len.2.2.2,ek]
   rfl
theorem Bu (k:Kw A H L0 pl ls M H1 L q) (z:Sz q n) (hn:n<=480)
  (go:∀ p H2 (zs:List Int),aF H1 H2->H2 p=some (.lst (zs.map V.int))->(zs.length:Int)=q.last - q.first+1->(∀ y∈zs,0<=y/\y<=M+9)->Q (.ref p) H2):bZ A [.ref L0] H1 Q E:=by
 obtain⟨kk,e,ky⟩:=z.keys
 have f0:=z.f0
 have top:=z.top
 obtain⟨sl,esl⟩:∃ sl:List Int,sl=(List.range (kk+1)).map fun(i:Nat)=>q.first+(i:Int):=⟨_,rfl⟩
 have ls1:sl.length=kk+1:=by rw[esl,List.length_map,List.length_range]
 have srt:sl.Pairwise (· <= ·):=by
  rw[esl,List.pairwise_map]
  exact List.pairwise_lt_range.imp (fun a=>by omega)
 refine⟨L,q,sl,by rw[k.qu],k.qw,?_,fun x hx=>?_,by rw[ls1]; omega,fun ms perm pw=>?_⟩
 ·rw[ky,esl,List.map_map]
  rfl
 ·rw[esl,List.mem_map]at hx
  obtain⟨i,hi,rfl⟩:=hx
  rw[List.mem_range]at hi
  exact⟨by omega,by omega⟩
 ·have em:ms=sl:=fY perm pw srt
  subst em
  refine⟨.inr ?_,fun p H2 S2 g2=>go p H2 (ms.map fun n=>((kB q.D n:Nat):Int)) S2 g2 (by rw[List.length_map,ls1]; omega) fun y hy=>?_⟩
  ·have h1:ms.getLastD 0=q.first+(kk:Int):=by
    rw[esl,List.range_succ,List.map_append]
    exact List.getLastD_concat
   have h2:ms.headD 0=q.first:=by
    rw[esl,List.range_succ_eq_map,List.map_cons]
    show q.first+((0:Nat):Int)=_
    omega
   rw[h1,h2,ls1]
   omega
  ·rw[List.mem_map]at hy
   obtain⟨x,hx,rfl⟩:=hy
   unfold kB
   cases el:aI q.D.fs (aN x) with
   | none=>
    show 0<=((0:Nat):Int)/\((0:Nat):Int)<=_
    have:=z.m8
    have:=k.mo
    omega
   | some bs=>
    have:=z.len _ _ el
    have:=k.mo
    show 0<=((bs.length:Nat):Int)/\((bs.length:Nat):Int)<=_
    omega
theorem tJ (k:Kw A H L0 pl ls M H1 L q) (z:Sz q n) (hn:n<=480) {σ : St} (e:σ[2]? = some (some (.ref L0)))
  (go:∀ p H2 (zs:List Int),aF H1 H2->H2 p=some (.lst (zs.map V.int))->(zs.length:Int)=q.last - q.first+1->(∀ y∈zs,0<=y/\y<=M+9)->Q (.ref p) H2):tMe A.queue "sizes" (bZ A) E0 (gH 2) eQ σ H1 Q:=by
 obtain⟨dx,h⟩:=k.self
 refine⟨_,e,L0,dx,_,rfl,h,rfl,?_⟩
 show bZ A [.ref L0] H1 Q E0
 exact Bu k z hn go
theorem xY {K:PySem.W.Frag} (k:Kw A H L0 pl ls M H1 L q) (z:Sz q n) (hn:n<=480) {σ : St} (e:σ[2]? = some (some (.ref L0)))
  (go:∀ H2,aF H1 H2->Q (.int (q.last - q.first+1)) H2):tCB (B9 K) (dX (tMe A.queue "sizes" (bZ A) E0 (gH 2) eQ) eQ) σ H1 Q:=by
 show tMe A.queue "sizes" (bZ A) E0 (gH 2) eQ σ H1 (fun v H2=>B9 K [v] H2 Q)
 refine tJ k z hn e fun p H2 zs s g l _=>⟨p,_,rfl,.inl (SqL.of g),?_⟩
 rw[List.length_map,l]
 exact go H2 s
theorem D5 {K:PySem.W.Frag} {QB:Bool->Hp->Prop} (k:Kw A H L0 pl ls M H1 L q) (z:Sz q n) (hn:n<=480) (ef:q.first=q.last) {σ : St} (e1:σ[1]? = some (some (.int M))) (e:σ[2]? = some (some (.ref L0)))
  (go:∀ H2,aF H1 H2->QB false H2):tOr (l9 (tOp rNe (tCB (B9 K) (dX (tMe A.queue "sizes" (bZ A) E0 (gH 2) eQ) eQ)) (tC (V.int 1))))
   (l9 (tOp (rI0 fun i j=>V.bl (decide (j<=i))) (tOp (DN K) (tMe A.queue "sizes" (bZ A) E0 (gH 2) eQ) (tC (V.int 0))) (tOp (rI0 fun i j=>V.int (i+j)) (gH 1) (tC (V.int 30))))) σ H1 QB:=by
 refine xY k z hn e fun H2 s2=>?_
 have k2:=k.sames s2
 refine⟨rfl,_,rfl,?_⟩
 show if (!decide (V.int (q.last - q.first+1)=V.int 1))=true then _ else _
 rw[decide_eq_true (show V.int (q.last - q.first+1)=V.int 1 by rw[show q.last - q.first+1=1 by omega])]
 refine aV ?_
 refine tJ k2 z hn e fun p H3 zs s3 g l hz=>?_
 match zs,l,hz,g with
 | [],l,_,_=>
  exfalso
  have l:(0:Int)=_:=l
  omega
 | y::r,l,hz,g=>
  have hy:=hz y List.mem_cons_self
  refine⟨p,_,_,.int y,rfl,rfl,SqL.of g,bY (by decide) rfl,_,e1,_,_,rfl,rfl,_,_,rfl,rfl,_,rfl,?_⟩
  rw[decide_eq_false (show ¬ (M+30<=y) by omega)]
  exact go H3 (s2.trans s3)
theorem D7 {K:PySem.W.Frag} {QB:Bool->Hp->Prop} (k:Kw A H L0 pl ls M H1 L q) (z:Sz q n) (hn:n<=480) (ef:ls=[]->q.first=q.last) {σ : St} (e1:σ[1]? = some (some (.int M))) (e:σ[2]? = some (some (.ref L0))) (e4:σ[4]? = some (some (.ref pl)))
  (go:∀ H2,aF H1 H2->QB false H2):F3 (l9 (tOp rEqD (gH 4) (tLst eQ))) (tOr (l9 (tOp rNe (tCB (B9 K) (dX (tMe A.queue "sizes" (bZ A) E0 (gH 2) eQ) eQ)) (tC (V.int 1))))
   (l9 (tOp (rI0 fun i j=>V.bl (decide (j<=i))) (tOp (DN K) (tMe A.queue "sizes" (bZ A) E0 (gH 2) eQ) (tC (V.int 0))) (tOp (rI0 fun i j=>V.int (i+j)) (gH 1) (tC (V.int 30)))))) σ H1 QB:=by
 refine⟨_,e4,cC,fun p9 hp9=>?_⟩
 have W9:=aJ (o:=.lst []) hp9
 have w9:upd H1 p9 (.lst []) p9=some (.lst []):=aE
 generalize upd H1 p9 (.lst [])=H9 at W9 w9 ⊢
 have k9:=k.sames W9
 refine⟨.list (ls.map .int),.list (([]:List Int).map .int),?_,?_,eG _,eG _,?_⟩
 ·simp only[Den]
  exact⟨pl,_,rfl,k9.gl,bR.mpr rfl⟩
 ·simp only[Den]
  exact⟨p9,_,rfl,w9,bR.mpr rfl⟩
 rw[pR]
 refine⟨_,rfl,?_⟩
 by_cases en:ls=[]
 ·rw[decide_eq_true en]
  exact aT (D5 k9 z hn (ef en) e1 e fun H2 s=>go H2 (W9.trans s))
 ·rw[decide_eq_false en]
  exact aV (go H9 W9)
theorem Gf {K:PySem.W.Frag} {QB:Bool->Hp->Prop} (k:Kw A H L0 pl ls M H1 L q) (z:Sz q n) (hn:n<=480) (ef:q.first=q.last) {σ : St} (e1:σ[1]? = some (some (.int M))) (e:σ[2]? = some (some (.ref L0)))
  (go:∀ H2,aF H1 H2->QB false H2):tOr (l9 (tOp (rI0 fun i j=>V.bl (decide (j<i))) (tCB (B9 K) (dX (tMe A.queue "sizes" (bZ A) E0 (gH 2) eQ) eQ)) (tC (V.int 2))))
   (l9 (tOp (rI0 fun i j=>V.bl (decide (j<=i))) (tCB (GB K) (dX (tMe A.queue "sizes" (bZ A) E0 (gH 2) eQ) eQ)) (tOp (rI0 fun i j=>V.int (i+j)) (tOp (rI Fk fun i j=>V.int (i * j)) (tC (V.int 2)) (gH 1)) (tC (V.int 60))))) σ H1 QB:=by
 refine xY k z hn e fun H2 s2=>?_
 have k2:=k.sames s2
 have m8:=z.m8
 have m67:=z.m67
 have mo:=k.mo
 refine⟨_,_,rfl,rfl,_,rfl,?_⟩
 show if decide ((2:Int)<q.last - q.first+1)=true then _ else _
 rw[decide_eq_false (show ¬ ((2:Int)<q.last - q.first+1) by omega)]
 refine aV ?_
 refine tJ k2 z hn e fun p H3 zs s3 g l hz=>?_
 match zs,l,hz,g with
 | [],l,_,_=>
  exfalso
  have l:(0:Int)=_:=l
  omega
 | y::y2::r,l,_,_=>
  exfalso
  have l:((r.length+1+1:Nat):Int)=_:=l
  omega
 | [y],l,hz,g=>
  have hy:=hz y List.mem_cons_self
  refine⟨p,[y],rfl,.inl (SqL.of g),_,e1,_,_,rfl,rfl,.inl ⟨by decide,by decide⟩,_,_,rfl,rfl,_,_,rfl,rfl,_,rfl,?_⟩
  show QB (decide (2 * M+60<=[y].sum)) H3
  have es:[y].sum=y:=by simp
  rw[es,decide_eq_false (show ¬ (2 * M+60<=y) by omega)]
  exact go H3 (s2.trans s3)
theorem vC (i:Nat) (b:Nat->Bool):i5 (i+1) b=i5 i b++(if b i=true then [(i:Int)] else []):=by
 unfold i5
 rw[List.range_succ,List.filter_append,List.map_append]
 by_cases h:b i=true
 ·rw[if_pos h,List.filter_cons_of_pos h]
  rfl
 ·rw[if_neg h,List.filter_cons_of_neg h]
  rfl
theorem yX (i m:Nat) (b:Nat->Bool) (h:i<m):(i:Int)∈i5 m b ↔ b i=true:=by
 unfold i5
 rw[List.mem_map]
 constructor
 ·rintro ⟨j,hj,e⟩
  have:j=i:=by omega
  subst this
  exact(List.mem_filter.mp hj).2
 ·intro e
  exact⟨i,List.mem_filter.mpr ⟨List.mem_range.mpr h,e⟩,rfl⟩
theorem yY (m:Nat) (b:Nat->Bool):(i5 m b).length<=m:=by
 unfold i5
 rw[List.length_map]
 have:=List.length_filter_le b (List.range m)
 rw[List.length_range]at this
 exact this
theorem Qz.first {m:Int} (m8:8<=m) (m67:m<=67):Qz (tH ⟨[],0,none⟩ [] ⟨[],0,[]⟩ m 99 9) [] 0 0:=by
 obtain⟨d,eg⟩:=Cf
 have eq0:tH ⟨[],0,none⟩ [] ⟨[],0,[]⟩ m 99 9=⟨⟨[(aN 0,zK)],d,none⟩,⟨[],0,[]⟩,m,99,9,0,0,0,[]⟩:=by
  unfold tH
  rw[eg]
  rfl
 rw[eq0]
 refine⟨⟨rfl,Int.le_refl _,Int.le_refl _,⟨0,rfl,rfl⟩,fun x bs e=>?_,m8,m67⟩,⟨[],rfl,rfl⟩,rfl,(fun p hp=>by cases hp),rfl,List.Pairwise.nil,(fun k hk=>by cases hk),Nat.zero_le _,by decide,by decide⟩
 have e:aI [(aN 0,zK)] x=some bs:=e
 rw[zD]at e
 by_cases y:x=aN 0
 ·rw[if_pos y]at e
  injection e with e
  rw[<- e]
  show ((zK.length:Nat):Int)<=m+9
  have:zK.length=7:=by decide +kernel
  omega
 ·rw[if_neg y]at e
  cases e
end
end Qh
end
section
namespace Qh
open PySem L2
noncomputable abbrev nO:Stmt:=top 65
noncomputable def wI (K:PySem.W.Frag):Sp:=fun vs H Q _=>∃ (a:Addr) (ns:List Int),vs=[.ref a]/\SqL K H a (ns.map V.int)/\∀ H',Q (.bl true) H'
theorem Bp {σ : St} {H:Hp} {v v2:V} {i:Nat} {k:List V->Hp->Prop} (e:σ[i]? = some (some v2)) (h:k [v,v2] H):dX (tC v) (dX (gH i) eQ) σ H k:=⟨_,e,h⟩
theorem xQ {σ : St} {H:Hp} {k:List V->Hp->Prop} (h:k [] H):eQ σ H k:=h
theorem Fd {σ : St} {H:Hp} {v:V} {i j:Nat} {x y:Int} {k:List V->Hp->Prop} (e:σ[i]? = some (some (.int x))) (e2:σ[j]? = some (some (.int y))) (h:k [v,.int (x+y)] H):dX (tC v) (dX (tOp (rI0 fun i j=>V.int (i+j)) (gH i) (gH j)) eQ) σ H k:=⟨_,e,_,e2,x,y,rfl,rfl,h⟩
theorem Ez {te:TE} {g:TG} {c:TS} {D:Ends} {σ : St} {H:Hp} (h:te σ H fun v H1=>g v σ H1 fun σ2 H2=>c D σ2 H2):By (tAsg te g) c D σ H:=h
theorem Ey {tt:TT} {a b c:TS} {D:Ends} {σ : St} {H:Hp} (h:tt σ H fun x H1=>if x=true then a { D with nx:=c D } σ H1 else b { D with nx:=c D } σ H1):By (Fz tt a b) c D σ H:=h
section
variable {P:Program} {w:World} {K:PySem.W.Frag} {mg:Str->Option Value} {base:Heap} {A:Ad}
theorem jK:FnScope ["_law_script","_law_most","_law_queue_here","_law_many","_law_lasting","_law_number","_law_before","_law_k"] ["_law_script"] (aH nO):=‹0›
set_option maxHeartbeats 2000000 in
theorem GQ {f:Addr} {fd:FuncData} (F:Fun K "law" "law" nO f fd) (T:TxtQ K mg A) (c_Disk:Maker P w K mg base "Disk" A.disk 3 ["self","steps"] (rK A.disk A.badNumber))
  (mQ_sizes:‹9› A.queue "sizes" 5 ["self"] (bZ A)) (mQ_letters:‹9› A.queue "letters" 3 ["self"] (jF A)) (mQ_coming:‹9› A.queue "coming" 1 ["self"] (kK A)) (mQ_put:‹9› A.queue "put" 8 ["self","body"] (iU A)) (mQ_take:‹9› A.queue "take" 8 ["self","hand"] (gQ A)) (mQ_done:‹9› A.queue "done" 8 ["self","hand","number"] (eW A)) (mQ_sweep:‹9› A.queue "sweep" 6 ["self"] (eR A))
  (c__law_cell:‹8› "_law_cell" 1 ["_law_script","_law_k"] (wL K)) (c__law_seed:‹8› "_law_seed" 1 ["_law_seed_here","_law_k"] wG) (c__law_pick:‹8› "_law_pick" 1 ["_law_seed_here","_law_many"] wH) (c__law_queue:‹8› "_law_queue" 10 ["_law_disk","_law_settings"] (oP A)) :
  ‹7› 11 f fd ["_law_script"] (wI K):=by
 refine F.okX jK (fun vs H Q E h=>?_) (fun cdv A' outer s H vs Q E hr h=>?_)
 ·obtain⟨a,ns,rfl,_⟩:=h
  rfl
 ·obtain⟨a,ns,rfl,hs,q⟩:=h
  refine⟨_,@aA _ _ _ _ _ (@a8 _ _ (1) _ _ _ _ jK.nd (by rfl) (by first | exact Or.inl (by rfl) | exact Or.inr (by rfl)) (@bO _ _ _ _ _ _ _ _ cZ ‹21› (@bO _ _ _ _ _ _ _ _ j4 (@bB _ _ _ _ _ _ _ _ _ _ _ c__law_cell ‹12› aW (@aD _ _ _ _ _ _ ‹17› ‹39›) ⋯ ⋯ ⋯ ⋯) ‹21›)) ⋯ ⋯) (@aA _ _ _ _ _ (@a8 _ _ (2) _ _ _ _ jK.nd (by rfl) (by first | exact Or.inl (by rfl) | exact Or.inr (by rfl)) (@bB _ _ _ _ _ _ _ _ _ _ _ c__law_queue ‹12› aW (@cJ _ _ _ _ _ _ _ _ (@Fp _ _ _ _ _ _ _ _ _ _ _ _ c_Disk ‹12› aW (@aO _ _ _ _ _ _ _ (@mW _ _ _) (@aB _)) ⋯ ⋯ ⋯ ⋯) (@dE _ _ _ _ _ _ _ (@cG _ _ _ _ _ (@aD _ _ _ _ _ _ ‹18› (@aO _ _ _ _ _ _ _ ‹21› ‹39›))) (@aB _))) ⋯ ⋯ ⋯ ⋯) ⋯ ⋯) (@aA _ _ _ _ _ (@a8 _ _ (3) _ _ _ _ jK.nd (by rfl) (by first | exact Or.inl (by rfl) | exact Or.inr (by rfl)) (@bO _ _ _ _ _ _ _ _ j4 (@bB _ _ _ _ _ _ _ _ _ _ _ c__law_cell ‹12› aW (@aD _ _ _ _ _ _ ‹17› ‹39›) ⋯ ⋯ ⋯ ⋯) ‹21›) ⋯ ⋯) (@aA _ _ _ _ _ (@E5 _ _ _ (4) _ _ _ _ _ _ _ _ _ _ _ ["_law_number"] [("_law_script",0)] jK.nd (by rfl) (by first | exact Or.inl (by rfl) | exact Or.inr (by rfl)) (by rfl) (@pH _ _ _ _ _ _ (by rfl) T.n_range (@aD _ _ _ _ _ _ ‹23› (@aB _)) ⋯) (fun C s2 H2 ex=>(@bW _ _ (0) _ (show List.Nodup (["_law_number","_law_script"]:List Str) by decide +kernel) (by rfl) (Or.inl (by rfl)) ⋯)) (fun C s2 H2 ex=>(@qQ _ _ _ (@aS _ _ _ _ _ _ _ _ lA (@bB _ _ _ _ _ _ _ _ _ _ _ c__law_pick ‹12› aW (@cJ _ _ _ _ _ _ _ _ (@bB _ _ _ _ _ _ _ _ _ _ _ c__law_seed ‹12› aW (@cJ _ _ _ _ _ _ _ _ (@bB _ _ _ _ _ _ _ _ _ _ _ c__law_cell ‹12› aW (@aD _ _ _ _ _ _ ‹18› ‹39›) ⋯ ⋯ ⋯ ⋯) ‹33›) ⋯ ⋯ ⋯ ⋯) ‹39›) ⋯ ⋯ ⋯ ⋯) ‹21› (aX _)))) (fun C s2 H2 ex=>‹17›) ⋯ ⋯ ⋯ ⋯ ⋯ ⋯) (@aA _ _ _ _ _ (@jW _ _ _ _ _ _ _ _ (qH fM) (by rfl) (@pH _ _ _ _ _ _ (by rfl) T.n_range (@aD _ _ _ _ _ _ ‹23› (@aB _)) ⋯) (@bW _ _ (5) _ jK.nd (by rfl) (by first | exact Or.inl (by rfl) | exact Or.inr (by rfl)) ⋯) (@aA _ _ _ _ _ (aQ (cB mQ_put T.cl_Queue ‹12› aW (pv 2) (dE (cG (aD (pv 5) (aO jY (aO jY aB)))) aB))) (@aA _ _ _ _ _ (@a9 _ _ _ _ _ _ _ _ (@aS _ _ _ _ _ _ _ _ kD (@c8 _ _ _ _ _ _ _ (cQ K) (@cB _ _ _ _ _ _ _ _ _ _ _ _ _ _ _ mQ_take T.cl_Queue ‹12› aW ‹22› ‹20› ⋯ ⋯ ⋯) ‹21› (fun _ _=>rfl)) (@pv _ 5 _ _ ⋯ ⋯ ⋯ ⋯) (aX _)) ‹24› (@aP _)) (@aC _ _ _ (@a9 _ _ _ _ _ _ _ _ (@aS _ _ _ _ _ _ _ _ (vD K) (@pv _ 5 _ _ ⋯ ⋯ ⋯ ⋯) ‹25› (by rfl)) (@aC _ _ _ (aQ (cB mQ_done T.cl_Queue ‹12› aW (pv 2) (aO dW (aD (pv 5) aB))))) (@aP _))))) ⋯) (@aA _ _ _ _ _ (aQ (cU mQ_sweep T.cl_Queue ‹12› aW (pv 2))) (@aA _ _ _ _ _ (@a9 _ _ _ _ _ _ _ _ (@PW.pt _ _ _ (@jV _ _ _ _ _ _ _ (@aS _ _ _ _ _ _ _ _ (GP hr.units) ‹25› (@iS _ _ _ _ (@aB _)) (aX _)) (@gO _ _ _ _ (@PW.pt _ _ _ (@kC _ _ _ _ _ _ _ (@aS _ _ _ _ _ _ _ _ kD ‹28› ‹21› (aX _)) (@hW _ _ _ _ (@aS _ _ _ _ _ _ _ _ BV (@c8 _ _ _ _ _ _ _ (eM K) (@cU _ _ _ _ _ _ _ _ _ _ _ _ mQ_sizes T.cl_Queue ‹12› aW ‹22› ⋯) ‹21› (fun _ _=>rfl)) (@bO _ _ _ _ _ _ _ _ cZ ‹18› ‹21›) (aX _)))))))) ‹24› (@aP _)) (@aA _ _ _ _ _ (@a9 _ _ _ _ _ _ _ _ (@aS _ _ _ _ _ _ _ _ (xG hr.units) (@eP _ _ _ _ _ _ _ _ _ _ _ ["_law_letter"] [] (by rfl) (@cP _ K _ _ _ (@cU _ _ _ _ _ _ _ _ _ _ _ _ mQ_letters T.cl_Queue ‹12› aW ‹22› ⋯) ⋯) (fun C s2 H2 ex=>(@bW _ _ (0) _ (show List.Nodup (["_law_letter"]:List Str) by decide +kernel) (by rfl) (Or.inl (by rfl)) ⋯)) ‹26› (fun C s2 H2 ex=>‹30›) ⋯ ⋯ ⋯ ⋯) ‹25› (aX _)) ‹24› (@aP _)) (@aA _ _ _ _ _ (@jW _ _ _ _ _ _ _ _ (qH fM) (by rfl) (@cP _ K _ _ _ ‹25› ⋯) (@bW _ _ (5) _ jK.nd (by rfl) (by first | exact Or.inl (by rfl) | exact Or.inr (by rfl)) ⋯) (@aA _ _ _ _ _ (aQ (cB mQ_done T.cl_Queue ‹12› aW (pv 2) (aO dW (aD (pv 5) aB)))) (@aA _ _ _ _ _ (@a8 _ _ (6) _ _ _ _ jK.nd (by rfl) (by first | exact Or.inl (by rfl) | exact Or.inr (by rfl)) ‹28› ⋯ ⋯) (@aC _ _ _ (@a9 _ _ _ _ _ _ _ _ (@aS _ _ _ _ _ _ _ _ kD (@cU _ _ _ _ _ _ _ _ _ _ _ _ mQ_sweep T.cl_Queue ‹12› aW ‹22› ⋯) (@bO _ _ _ _ _ _ _ _ pM (@pv _ 6 _ _ ⋯ ⋯ ⋯ ⋯) ‹28›) (aX _)) ‹24› (@aP _))))) ⋯) (@aA _ _ _ _ _ (@a9 _ _ _ _ _ _ _ _ (@PW.pt _ _ _ (@kC _ _ _ _ _ _ _ (@aS _ _ _ _ _ _ _ _ (xG hr.units) (@cU _ _ _ _ _ _ _ _ _ _ _ _ mQ_letters T.cl_Queue ‹12› aW ‹22› ⋯) (@iS _ _ _ _ (@aB _)) (aX _)) (@kC _ _ _ _ _ _ _ (@aS _ _ _ _ _ _ _ _ kD ‹28› ‹21› (aX _)) (@hW _ _ _ _ (@aS _ _ _ _ _ _ _ _ BV (@c8 _ _ _ _ _ _ _ (eM K) (@cU _ _ _ _ _ _ _ _ _ _ _ _ mQ_sizes T.cl_Queue ‹12› aW ‹22› ⋯) ‹21› (fun _ _=>rfl)) (@bO _ _ _ _ _ _ _ _ cZ ‹18› ‹21›) (aX _)))))) ‹24› (@aP _)) (@aA _ _ _ _ _ (@jW _ _ _ _ _ _ _ _ (qH fM) (by rfl) (@pH _ _ _ _ _ _ (by rfl) T.n_range ‹39› ⋯) (@bW _ _ (7) _ jK.nd (by rfl) (by first | exact Or.inl (by rfl) | exact Or.inr (by rfl)) ⋯) (@aA _ _ _ _ _ (aQ (cB mQ_put T.cl_Queue ‹12› aW (pv 2) (dE (cG (aO jY aB)) aB))) (@aA _ _ _ _ _ (@a9 _ _ _ _ _ _ _ _ (@aS _ _ _ _ _ _ _ _ kD (@c8 _ _ _ _ _ _ _ (cQ K) (@cB _ _ _ _ _ _ _ _ _ _ _ _ _ _ _ mQ_take T.cl_Queue ‹12› aW ‹22› ‹20› ⋯ ⋯ ⋯) ‹21› (fun _ _=>rfl)) (@bO _ _ _ _ _ _ _ _ cZ ‹23› (@pv _ 7 _ _ ⋯ ⋯ ⋯ ⋯)) (aX _)) ‹24› (@aP _)) (@aA _ _ _ _ _ (aQ (cB mQ_done T.cl_Queue ‹12› aW (pv 2) (aO dW (dO (bO cZ (pv 3) (pv 7)) aB)))) (@aA _ _ _ _ _ (aQ (cU mQ_sweep T.cl_Queue ‹12› aW (pv 2))) (@aC _ _ _ (@a9 _ _ _ _ _ _ _ _ (@PW.pt _ _ _ (@kC _ _ _ _ _ _ _ (@aS _ _ _ _ _ _ _ _ vF ‹28› ‹21› (aX _)) (@hW _ _ _ _ (@aS _ _ _ _ _ _ _ _ BV (@bC _ _ _ _ _ _ _ _ _ (lZ K) (by rfl) T.n_sum yG (@cJ _ _ _ _ _ _ _ _ (@cU _ _ _ _ _ _ _ _ _ _ _ _ mQ_sizes T.cl_Queue ‹12› aW ‹22› ⋯) (@aB _)) ⋯ ⋯ ⋯ ⋯) (@bO _ _ _ _ _ _ _ _ cZ (@bO _ _ _ _ _ _ _ _ pN ‹21› ‹18›) ‹21›) (aX _))))) ‹24› (@aP _))))))) ⋯) (@aC _ _ _ (@bA _ _ _ _ (@jZ _ _ _ _ _ _ _ _ lA (@cU _ _ _ _ _ _ _ _ _ _ _ _ mQ_coming T.cl_Queue ‹12› aW ‹22› ⋯) (@bO _ _ _ _ _ _ _ _ cZ ‹23› ‹21›) (aX _)))))))))))))),?_⟩
  have x0:=Int.emod_nonneg (ns.getD (Int.toNat 0) 0) (show (60:Int)≠0 by decide)
  have x1:=Int.emod_lt_of_pos (ns.getD (Int.toNat 0) 0) (show (0:Int)<60 by decide)
  refine⟨_,rfl,a,ns,0,rfl,by decide,hs,_,_,rfl,rfl,(by show (0:Int)<60; decide),_,_,rfl,rfl,?_⟩
  show vQ 1 (V.int (8+ns.getD (Int.toNat 0) 0 % 60)) _ _ _
  obtain⟨mo,emo,m8,m67⟩:∃ mo:Int,8+ns.getD (Int.toNat 0) 0 % 60=mo/\8<=mo/\mo<=67:=⟨_,rfl,by omega,by omega⟩
  rw[emo]
  clear emo x0 x1
  refine fun dk dx hdk hdx ne=>⟨dk,dx,.non,.none,rfl,aE,by simp only[Den],(fun z=>by cases z),fun _ df H1 f1 hdf hD1=>⟨rfl,_,rfl,cC,fun p5 hp5=>?_⟩⟩
  have S1:aF H H1:=fun b o e=>by
   have nb:b≠dk:=aY e hdk
   have nd:b≠dx:=aY e hdx
   exact f1 b o (by rw[aG nb,aG nd]; exact e) nb
  have hdf0:H df=none:=by
   cases e:H df with
   | none=>rfl
   | some o=>
    rw[aG (aY e hdk),aG (aY e hdx),e]at hdf
    cases hdf
  have fresh1:∀ b,own dk df [] b->H b=none:=by
   rintro b (rfl | rfl | hb)
   ·exact hdk
   ·exact hdf0
   ·simp at hb
  have hDA:DiskAt A.disk H1 dk df [] ⟨[],0,none⟩:=hD1
  have W5:=aJ (o:=.tup [.int mo,.int 99,.int 9]) hp5
  have w5:upd H1 p5 (.tup [.int mo,.int 99,.int 9]) p5=some (.tup [.int mo,.int 99,.int 9]):=aE
  refine⟨dk,df,p5,[],⟨[],0,none⟩,[],[],⟨[],0,[]⟩,mo,99,9,rfl,w5,by omega,by omega,by decide,by decide,by decide,by decide,hDA.same W5,Cm,fun L H7 eL f7 w7 hq7=>?_⟩
  have S7:aF H H7:=fun b o e=>f7 b o (W5 _ _ (S1 b o e)) (fun ho=>by rw[fresh1 b ho]at e; cases e)
  have fr7:∀ b,mZ L b->H b=none:=fun b hb=>by
   rcases w7 b hb with y | y
   ·exact fresh1 b y
   ·exact(S1.trans W5).free y
  have z7:=Qz.first m8 m67
  have mo7:(tH ⟨[],0,none⟩ [] ⟨[],0,[]⟩ mo 99 9).most=mo:=rfl
  generalize tH ⟨[],0,none⟩ [] ⟨[],0,[]⟩ mo 99 9=q7 at hq7 z7 mo7
  have x0:=Int.emod_nonneg (ns.getD (Int.toNat 1) 0) (show (41:Int)≠0 by decide)
  have x1:=Int.emod_lt_of_pos (ns.getD (Int.toNat 1) 0) (show (0:Int)<41 by decide)
  refine⟨_,rfl,a,ns,1,rfl,by decide,S7.seq hs,_,_,rfl,rfl,(by show (0:Int)<41; decide),?_⟩
  show vQ 3 (V.int (ns.getD (Int.toNat 1) 0 % 41)) _ _ _
  obtain⟨mn,emn,mn40⟩:∃ mn:Nat,ns.getD (Int.toNat 1) 0 % 41=(mn:Int)/\mn<=40:=⟨(ns.getD (Int.toNat 1) 0 % 41).toNat,by omega,by omega⟩
  rw[emn]
  clear emn x0 x1 f1 f7 w7 w5 W5 hDA hD1 fresh1 hdf0
  refine⟨_,rfl,(mn:Int),rfl,by omega,by omega,?_⟩
  obtain⟨b,eb⟩:∃ b:Nat->Bool,b=fun(k:Nat)=>decide (V.int (BS (BQ (ns.getD (Int.toNat 2) 0) (0+(k:Int))) 9)=V.int 0):=⟨_,rfl⟩
  refine oB (oJ (H:=H7) 0 (Int.toNat (mn:Int))) (Nat.le_trans (show _<=100 by omega) (by decide)) b (fun k=>V.int (0+(k:Int))) (fun σ=>∃ z,σ = [z,some (.ref a)]) ⟨none,rfl⟩ ?_ ?_
  ·intro j x σc H8 hj hσ s8 hx Q1 Q2 Q3 h2 h3
   obtain⟨z,rfl⟩:=hσ
   have hx:x = .int (0+(j:Int)):=hx
   subst hx
   refine⟨_,rfl,a,ns,2,rfl,by decide,(S7.trans s8).seq hs,_,rfl,_,_,rfl,_,9,rfl,by decide,rfl,_,rfl,?_⟩
   show if decide (V.int (BS (BQ (ns.getD (Int.toNat 2) 0) (0+(j:Int))) 9)=V.int 0)=true then _ else _
   have ej:decide (V.int (BS (BQ (ns.getD (Int.toNat 2) 0) (0+(j:Int))) 9)=V.int 0)=b j:=by rw[eb]
   rw[ej]
   cases h:b j with
   | true=>exact aT ⟨_,rfl,h2 _ ⟨_,rfl⟩ h⟩
   | false=>exact aV (h3 _ ⟨_,rfl⟩ h)
  intro pl H8 hpl S8 gl
  have er:((List.range (Int.toNat (mn:Int))).filter b).map (fun(k:Nat)=>V.int (0+(k:Int)))=(i5 mn b).map V.int:=by
   unfold i5
   rw[Int.toNat_natCast,List.map_map]
   apply List.map_congr_left
   intro k _
   show V.int (0+(k:Int))=V.int (k:Int)
   rw[Int.zero_add]
  rw[er]at gl
  clear er eb
  have kw8:Kw A H L.qu pl (i5 mn b) mo H8 L q7:=⟨S7.trans S8,rfl,fr7,hq7.same S8,(fun hb=>by
   obtain⟨o,e⟩:=qX hq7 hb
   rw[hpl]at e
   cases e),gl,mo7⟩
  clear hq7 mo7 gl hpl S8
  refine⟨_,rfl,(mn:Int),rfl,by omega,by omega,?_⟩
  refine fB (oJ (H:=fun _=>none) 0 (Int.toNat (mn:Int))) (fun i σ H'=>∃ L1 q1,∃ (n:Nat) (z5:Option V),Kw A H L.qu pl (i5 mn b) mo H' L1 q1/\Qz q1 (i5 i b) (i:Int) n/\n<=3 * i/\σ = [some (.ref a),some (.int mo),some (.ref L.qu),some (.int (mn:Int)),some (.ref pl),z5,none,none]) ⟨L,q7,0,_,kw8,z7,Nat.zero_le _,rfl⟩ (fun _ _ _ _ b o e=>by cases e) ?_ ?_
  ·rintro i x σ H9 H10 hi ⟨L1,q1,n,z5,k1,z1,hn,rfl⟩ s10 hx
   have hx:x = .int (0+(i:Int)):=hx
   rw[Int.zero_add]at hx
   subst hx
   rw[Int.toNat_natCast]at hi
   have k1:=k1.sames s10
   obtain⟨dx1,h1⟩:=k1.self
   have pl1:=yY i b
   refine⟨_,rfl,L.qu,dx1,_,rfl,h1,rfl,ES (EF (ds:=[.int (i:Int),.int 7,.int 7]) cC (rB (Gh rfl (by simp only[Den])) (rB (EG BA) (rB (EG BA) Ed)))) fun v11 H11 S11 d11=>?_⟩
   have bok:fV [(i:Int),7,7]:=fun b hb=>by
    simp only[List.mem_cons,List.not_mem_nil,or_false]at hb
    rcases hb with y | y | y <;> rw[y] <;> omega
   show iU A [.ref L.qu,v11] _ _ _
   refine BJ (k1.sames S11) z1 (by omega) (by omega) (by omega) (b:=[(i:Int),7,7]) (Nat.le_refl 3) bok d11 fun L2 q2 H2 k2 z2=>?_
   obtain⟨dx2,h2⟩:=k2.self
   refine⟨_,rfl,L.qu,dx2,_,rfl,h2,rfl,ER ?_⟩
   show gQ A [.ref L.qu,.str "a"] _ _ _
   refine uS k2 z2 (by omega) xX fun p pb tt L3 q3 H3 k3 z3 e3 g3=>?_
   refine⟨p,_,_,.int (i:Int),rfl,rfl,SqT.of g3,bY (by decide) rfl,_,rfl,rfl,_,rfl,?_⟩
   rw[decide_eq_true (show V.int (i:Int)=V.int (i:Int) from rfl)]
   refine aV (bE rfl ?_)
   refine⟨_,rfl,_,rfl,pl,_,rfl,.inl (SqL.of k3.gl),rfl,Cj _,_,rfl,?_⟩
   rw[if_pos rfl,Dx]
   by_cases hb:b i=true
   ·rw[decide_eq_true ((yX i mn b hi).mpr hb)]
    refine aV ?_
    refine⟨L3,q3,n+1+1,_,k3,?_,by omega,rfl⟩
    rw[vC,if_pos hb,show ((i+1:Nat):Int)=(i:Int)+1 by omega]
    exact z3.keep e3
   ·rw[decide_eq_false (fun y=>hb ((yX i mn b hi).mp y))]
    obtain⟨dx3,h3⟩:=k3.self
    refine aT ⟨_,rfl,L.qu,dx3,_,rfl,h3,rfl,Bp rfl ?_⟩
    show eW A [.ref L.qu,.str "a",.int (i:Int)] _ _ _
    refine uT k3 z3 (by omega) e3 xX fun L4 q4 H4 k4 z4=>?_
    refine⟨L4,q4,n+1+1+1,_,k4,?_,by omega,rfl⟩
    rw[vC,if_neg hb,List.append_nil,show ((i+1:Nat):Int)=(i:Int)+1 by omega]
    exact z4
  rintro σ H9 ⟨L1,q1,n,z5,k1,z1,hn,rfl⟩
  rw[Int.toNat_natCast]at z1 hn
  have pll:=yY mn b
  generalize i5 mn b=ls at k1 z1 pll
  clear kw8 z7
  obtain⟨dx1,h1⟩:=k1.self
  refine⟨_,rfl,L.qu,dx1,_,rfl,h1,rfl,xQ ?_⟩
  show eR A [.ref L.qu] _ _ _
  refine oH k1 z1 (by omega) fun L2 q2 H2 k2 z2 el ef=>?_
  clear k1 z1 h1
  refine Ey (D7 k2 z2.sz (by omega) ef rfl rfl rfl fun H3 S3=>aV (bE rfl ?_))
  have k3:=k2.sames S3
  clear k2 S3 el
  obtain⟨dx3,h3⟩:=k3.self
  have eL3:=z2.len
  refine⟨_,rfl,L.qu,dx3,_,rfl,h3,rfl,L2,q2,by rw[k3.qu],k3.qw,by rw[eL3.1]; omega,fun ms perm pw p4 H4 S4 d4=>?_⟩
  have em:ms=ls:=fY (perm.trans (by rw[eL3.2.2.2])) pw (z2.so.imp Int.le_of_lt)
  rw[em]at d4
  clear em perm pw ms
  simp only[Den]at d4
  obtain⟨_,xs,e,gx,dds⟩:=d4
  cases e
  have lds:=dds.length
  rw[List.length_map]at lds
  refine⟨p4,rfl,⟨_,SqL.of gx⟩,?_⟩
  refine fE (cO (K:=K) (SqL.of gx)) (Nat.le_trans (show _<=60 by omega) (by decide)) (fun j y _=>(ls.map V.int)[j]? = some y) (fun _ _ _ _ _ h=>h) (fun σ=>σ.length=1) ?c0 ?_ ?_
  case c0=>rfl
  ·intro j x σc H12 hj hσ s12 hx Q' hQ'
   obtain⟨dd,hd,dn⟩:=dds.get hx
   rw[List.getElem?_map]at hd
   cases el:ls[j]? with
   | none=>
    rw[el]at hd
    cases hd
   | some y=>
    rw[el]at hd
    cases hd
    have dn':=dn.same s12
    obtain⟨t,b',et,g,_⟩:=nY dn'
    subst et
    match σc,hσ with
    | [z],_=>
     refine⟨_,rfl,t,_,_,.int y,rfl,rfl,SqT.of g,bY (by decide) rfl,?_⟩
     exact hQ' _ _ _ rfl (aF.refl _) (by rw[List.getElem?_map,el]; rfl)
  intro pc ys H5 hpc S5 gc hlen hR
  have ey:ys=ls.map V.int:=by
   apply List.ext_getElem?
   intro j
   cases e:ys[j]? with
   | none=>
    have:ys.length<=j:=List.getElem?_eq_none_iff.mp e
    rw[List.getElem?_eq_none (by rw[List.length_map]; omega)]
   | some y=>rw[hR j y e]
  subst ey
  have k5:=k3.sames (S4.trans S5)
  refine⟨_,rfl,FS gc k5.gl ⟨_,rfl,aV (bE rfl ?_)⟩⟩
  clear gc hlen hR hpc S5 S4 gx dds lds k3 h3
  refine⟨_,rfl,pl,rfl,⟨_,SqL.of k5.gl⟩,?_⟩
  refine fB (cO (K:=K) (H:=upd (fun _=>none) pl (.lst (ls.map V.int))) (SqL.of aE)) (fun i σ H'=>∃ L1 q1,∃ (m:Nat) (z5 z6:Option V),Kw A H L.qu pl ls mo H' L1 q1/\Qz q1 (ls.drop i) (mn:Int) m/\m<=n+i/\(ls.drop i=[]->q1.first=q1.last)/\σ = [some (.ref a),some (.int mo),some (.ref L.qu),some (.int (mn:Int)),some (.ref pl),z5,z6,none]) ⟨L2,q2,n,_,_,k5,z2,Nat.le_refl _,ef,rfl⟩ (fun i σ H' hh b o e=>?_) ?_ ?_
  ·obtain⟨_,_,_,_,_,k,_⟩:=hh
   by_cases y:b=pl
   ·subst y
    rw[aE]at e
    injection e with e
    rw[<- e]
    exact k.gl
   ·rw[aG y]at e
    cases e
  ·rintro i x σ H6 H7 hi ⟨L6,q6,m,z5,z6,k6,zz,hm,ef6,rfl⟩ s7 hx
   rw[List.length_map]at hi
   have hx:(ls.map V.int)[i]? = some x:=hx
   rw[List.getElem?_map,List.getElem?_eq_getElem hi]at hx
   have ed:ls.drop i=ls[i]::ls.drop (i+1):=List.drop_eq_getElem_cons hi
   generalize ls[i]=y at hx ed
   cases hx
   rw[ed]at zz
   have k7:=k6.sames s7
   obtain⟨dx7,h7⟩:=k7.self
   refine⟨_,rfl,L.qu,dx7,_,rfl,h7,rfl,Bp rfl ?_⟩
   show eW A [.ref L.qu,.str "a",.int y] _ _ _
   refine Bv k7 zz (by omega) fun L8 q8 H8 k8 z8=>?_
   refine Ez (xY k8 z8.sz (by omega) rfl fun H9 s9=>?_)
   have k9:=k8.sames s9
   obtain⟨dx9,h9⟩:=k9.self
   refine⟨_,rfl,L.qu,dx9,_,rfl,h9,rfl,xQ ?_⟩
   show eR A [.ref L.qu] _ _ _
   refine oH k9 z8 (by omega) fun L10 q10 H10 k10 z10 el10 ef10=>?_
   refine⟨_,rfl,xY k10 z10.sz (by omega) rfl fun H11 s11=>?_⟩
   refine⟨_,_,rfl,rfl,rfl,_,rfl,?_⟩
   show if (!decide (V.int (q10.first - q8.first)=V.int (q8.last - q8.first+1 - (q10.last - q10.first+1))))=true then _ else _
   rw[decide_eq_true (show V.int (q10.first - q8.first)=V.int (q8.last - q8.first+1 - (q10.last - q10.first+1)) by rw[show q8.last - q8.first+1 - (q10.last - q10.first+1)=q10.first - q8.first by omega])]
   refine aV ?_
   exact⟨L10,q10,m+1,_,_,k10.sames s11,z10,by omega,ef10,rfl⟩
  rintro σ H6 ⟨L6,q6,m,z5',z6,k6,zz,hm,ef6,rfl⟩
  rw[List.length_map]at zz hm ef6
  rw[List.drop_length]at zz ef6
  have ef6:=ef6 rfl
  obtain⟨dx6,h6⟩:=k6.self
  refine⟨_,rfl,L.qu,dx6,_,rfl,h6,rfl,L6,q6,by rw[k6.qu],k6.qw,by rw[zz.len.1]; decide,fun ms perm pw p8 H8 S8 d8=>?_⟩
  have em:ms=[]:=List.Perm.eq_nil (by rw[zz.len.2.2.2]at perm; exact perm)
  subst em
  refine⟨cC,fun p9 hp9=>?_⟩
  have W9:=aJ (o:=.lst []) hp9
  have w9:upd H8 p9 (.lst []) p9=some (.lst []):=aE
  generalize upd H8 p9 (.lst [])=H9 at W9 w9 ⊢
  refine Dp (d:=.list []) (d8.same W9) (by simp only[Den,aU]; exact⟨p9,[],rfl,w9,rfl⟩) rfl (by decide) ⟨_,rfl,aV ?_⟩
  refine D5 (k6.sames (S8.trans W9)) zz.sz (by omega) ef6 rfl rfl fun H10 S10=>aV (bE rfl ?_)
  have k10:=k6.sames (S8.trans (W9.trans S10))
  clear perm pw d8 w9 W9 S8 S10 h6 k5 k6
  refine⟨30,rfl,by decide,by decide,?_⟩
  refine fB (oJ (H:=fun _=>none) 0 (Int.toNat 30)) (fun i σ H'=>∃ L1 q1,∃ (m:Nat) (z5 z6 z7:Option V),Kw A H L.qu pl ls mo H' L1 q1/\Qz q1 [] ((mn:Int)+(i:Int)) m/\m<=160+3 * i/\σ = [some (.ref a),some (.int mo),some (.ref L.qu),some (.int (mn:Int)),some (.ref pl),z5,z6,z7]) ⟨L6,q6,m,_,_,_,k10,?_,by omega,rfl⟩ (fun _ _ _ _ b o e=>by cases e) ?_ ?_
  ·rw[show (mn:Int)+((0:Nat):Int)=(mn:Int) by omega]
   exact zz
  ·rintro i x σ H11 H12 hi ⟨L1,q1,m',z5,z6,z7,k1,z1,hm1,rfl⟩ s12 hx
   have hx:x = .int (0+(i:Int)):=hx
   rw[Int.zero_add]at hx
   subst hx
   have hi:i<30:=hi
   have k1:=k1.sames s12
   obtain⟨dx1,h1⟩:=k1.self
   refine⟨_,rfl,L.qu,dx1,_,rfl,h1,rfl,ES (EF (ds:=[.int 1]) cC (rB (EG BA) Ed)) fun v13 H13 S13 d13=>?_⟩
   have bok:fV [1]:=fun b hb=>by
    rw[List.mem_singleton.mp hb]
    decide
   show iU A [.ref L.qu,v13] _ _ _
   refine BJ (k1.sames S13) z1 (by omega) (by decide) (by omega) (b:=[1]) (by decide) bok d13 fun L2 q2 H2 k2 z2=>?_
   obtain⟨dx2,h2⟩:=k2.self
   refine⟨_,rfl,L.qu,dx2,_,rfl,h2,rfl,ER ?_⟩
   show gQ A [.ref L.qu,.str "b"] _ _ _
   refine uS k2 z2 (by omega) D3 fun p pb tt L3 q3 H3 k3 z3 e3 g3=>?_
   refine⟨p,_,_,.int ((mn:Int)+(i:Int)),rfl,rfl,SqT.of g3,bY (by decide) rfl,_,rfl,_,rfl,_,_,rfl,rfl,rfl,_,rfl,?_⟩
   rw[decide_eq_true (show V.int ((mn:Int)+(i:Int))=V.int ((mn:Int)+(i:Int)) from rfl)]
   refine aV (bE rfl ?_)
   obtain⟨dx3,h3⟩:=k3.self
   refine⟨_,rfl,L.qu,dx3,_,rfl,h3,rfl,Fd rfl rfl ?_⟩
   show eW A [.ref L.qu,.str "b",.int ((mn:Int)+(i:Int))] _ _ _
   refine uT k3 z3 (by omega) e3 D3 fun L4 q4 H4 k4 z4=>?_
   obtain⟨dx4,h4⟩:=k4.self
   refine⟨_,rfl,L.qu,dx4,_,rfl,h4,rfl,xQ ?_⟩
   show eR A [.ref L.qu] _ _ _
   refine oH k4 z4 (by omega) fun L5 q5 H5 k5 z5 el5 ef5=>?_
   refine Gf k5 z5.sz (by omega) (ef5 rfl) rfl rfl fun H6 S6=>aV ?_
   refine⟨L5,q5,m'+1+1+1,_,_,_,k5.sames S6,?_,?_,rfl⟩
   ·rw[show (mn:Int)+((i+1:Nat):Int)=(mn:Int)+(i:Int)+1 by omega]
    exact z5
   ·omega
  rintro σ H11 ⟨L1,q1,m',z5,z6,z7,k1,z1,hm1,rfl⟩
  obtain⟨dx1,h1⟩:=k1.self
  refine⟨_,rfl,L.qu,dx1,_,rfl,h1,rfl,L1,q1,by rw[k1.qu],k1.qw,_,rfl,_,_,rfl,rfl,rfl,?_⟩
  show Q (V.bl (decide (V.int q1.B.up=V.int ((mn:Int)+30)))) _
  rw[decide_eq_true (show V.int q1.B.up=V.int ((mn:Int)+30) by rw[z1.len.2.1]; rfl)]
  exact q _
end
end Qh
end
section
namespace Qh
open PySem L2
structure DefIn (K:PySem.W.Frag) (x:Str) (st:Stmt):Prop where
 ex:∃ (f:Addr) (oc:Value) (od:Option Addr) (kV doc pm:Value) (an:Option Addr) (cdv ct:Value) (osl:Array (Option Value)),PySem.W.nsIn K mainGlobals x=some (some (.ref f))/\
  K.lookup f=some ⟨oc,od,.func (PySem.W.fnOf x x (fU st) (fD st) (aH st) .none kV doc pm an cdv ct),osl⟩/\PySem.W.codeIn K cdv x=true/\PySem.W.keepIn K (.ref f)=true
theorem bM {K:PySem.W.Frag} {x:Str} {st:Stmt} {f:Addr} {oc:Value} {od an:Option Addr} {osl:Array (Option Value)} {kV doc pm cdv ct:Value} (a:PySem.W.nsIn K mainGlobals x=some (some (.ref f)))
  (l:K.lookup f=some ⟨oc,od,.func (PySem.W.fnOf x x (fU st) (fD st) (aH st) .none kV doc pm an cdv ct),osl⟩) (c:PySem.W.codeIn K cdv x=true) (k:PySem.W.keepIn K (.ref f)=true):DefIn K x st:=⟨⟨f,oc,od,kV,doc,pm,an,cdv,ct,osl,a,l,c,k⟩⟩
theorem DefIn.get {K:PySem.W.Frag} {h:Heap} {mg:Str->Option Value} {x:Str} {st:Stmt} (X:K.In h) (G:h.Ns mainGlobals mg) (D:DefIn K x st):∃ f fd,Fun K x x st f fd/\mg x=some (.ref f)/\PySem.W.keepIn K (.ref f)=true:=by
 obtain⟨f,oc,od,kV,doc,pm,an,cdv,ct,osl,a,l,c,k⟩:=D.ex
 exact⟨f,_,A8 l c k,PySem.W.mg_of X G a,k⟩
noncomputable def qO:List Str->List Value->Bool
 | [],[]=>true
 | k::ks,.str x _::vs=>decide (x=k) && qO ks vs
 | _,_=>false
theorem nD:∀ {ks:List Str} {vs:List Value},qO ks vs=true->bQ (ks.map V.str) vs
 | [],[],_=>.nil
 | k::ks,.str x t::vs,h=>by
  simp only[qO,Bool.and_eq_true,decide_eq_true_eq]at h
  obtain⟨h1,h2⟩:=h
  subst h1
  exact .cons ⟨t,rfl⟩ (nD h2)
noncomputable def xS (K:PySem.W.Frag) (a:Addr):Bool:=match K.lookup a with
 | some ⟨.type t,none,.seq its n,_⟩=>decide (t = "tuple") && (decide (its.size<=100) && qO cD its.toList)
 | _=>false
theorem A5 {K:PySem.W.Frag} {a:Addr} (h:xS K a=true):(∀ H,SqT K H a (cD.map V.str))/\∃ o,K.lookup a=some o/\o.cls = .type "tuple"/\o.dict=none:=by
 unfold xS at h
 split at h
 ·next t its n sl e=>
  simp only[Bool.and_eq_true,decide_eq_true_eq]at h
  obtain⟨h1,h2,h3⟩:=h
  subst h1
  exact⟨fun H=>.inr ⟨_,its,n,e,rfl,rfl,cC h2,nD h3⟩,_,e,rfl,rfl⟩
 ·cases h
structure MethIn (K:PySem.W.Frag) (C:Addr) (x qual:Str) (st:Stmt):Prop where
 ex:∃ (f:Addr) (oc:Value) (od:Option Addr) (kV doc pm:Value) (an:Option Addr) (cdv ct:Value) (osl:Array (Option Value)),PySem.W.findIn K (.ref C) x=some (some (.ref f))/\PySem.W.isFn K (.ref f)=true/\
  K.lookup f=some ⟨oc,od,.func (PySem.W.fnOf x qual (fU st) (fD st) (aH st) .none kV doc pm an cdv ct),osl⟩/\PySem.W.codeIn K cdv qual=true/\PySem.W.keepIn K (.ref f)=true
theorem aR {K:PySem.W.Frag} {C:Addr} {x qual:Str} {st:Stmt} {f:Addr} {oc:Value} {od an:Option Addr} {osl:Array (Option Value)} {kV doc pm cdv ct:Value} (a:PySem.W.findIn K (.ref C) x=some (some (.ref f))) (i:PySem.W.isFn K (.ref f)=true)
  (l:K.lookup f=some ⟨oc,od,.func (PySem.W.fnOf x qual (fU st) (fD st) (aH st) .none kV doc pm an cdv ct),osl⟩) (c:PySem.W.codeIn K cdv qual=true) (k:PySem.W.keepIn K (.ref f)=true):MethIn K C x qual st:=⟨⟨f,oc,od,kV,doc,pm,an,cdv,ct,osl,a,i,l,c,k⟩⟩
theorem MethIn.get {K:PySem.W.Frag} {C:Addr} {x qual:Str} {st:Stmt} (D:MethIn K C x qual st):∃ f fd,Fun K x qual st f fd/\PySem.W.findIn K (.ref C) x=some (some (.ref f))/\PySem.W.isFn K (.ref f)=true/\PySem.W.keepIn K (.ref f)=true:=by
 obtain⟨f,oc,od,kV,doc,pm,an,cdv,ct,osl,a,i,l,c,k⟩:=D.ex
 exact⟨f,_,A8 l c k,a,i,k⟩
end Qh
end
section
namespace Qh
open PySem L2
set_option maxHeartbeats 4000000 in
theorem GV {l:PySem.W.OpenLaw} {w:World} {K:PySem.W.Frag} {h:Heap} {mg:Str->Option Value} {fa fL a_KINDS C_BadName C_Missing C_There C_Stopped C_Broken C_BadRow C_BadSettings C_BadBody C_BadHand C_BadNumber C_NotHeld C_Disk C_Queue C_Book:Addr} (X:K.In h) (G:h.Ns mainGlobals mg) (hfa:mg "law" = some (.ref fa))
  {odL anL:Option Addr} {slL:Array (Option Value)} {ocL kVL dcL pmL cdL ctL:Value} {t0 t1 t2 t3 t4 t5 t6 t7 t8 t9 t10 t11 t12 t13 t14:Tok}
  (d_is_number:DefIn K "is_number" kS)
  (d_check_steps:DefIn K "check_steps" iQ)
  (d_segment_name:DefIn K "segment_name" hV)
  (d_segment_of:DefIn K "segment_of" jN)
  (d_segments_on:DefIn K "segments_on" iP)
  (d_is_word:DefIn K "is_word" pE)
  (d_check_name:DefIn K "check_name" jQ)
  (d_is_bytes:DefIn K "is_bytes" mT)
  (d_fits_kind:DefIn K "fits_kind" kT)
  (d_is_row:DefIn K "is_row" sA)
  (d_check_body:DefIn K "check_body" jT)
  (d_checks_of:DefIn K "checks_of" kW)
  (d_row_bytes:DefIn K "row_bytes" kP)
  (d_row_end:DefIn K "row_end" o5)
  (d_row_from:DefIn K "row_from" mR)
  (d_rows_in:DefIn K "rows_in" o4)
  (d_without_last_parts:DefIn K "without_last_parts" oZ)
  (d_make_good:DefIn K "make_good" kR)
  (d_check_hand:DefIn K "check_hand" jR)
  (d__law_cell:DefIn K "_law_cell" AX)
  (d__law_seed:DefIn K "_law_seed" AR)
  (d__law_pick:DefIn K "_law_pick" AT)
  (d_check_settings:DefIn K "check_settings" fK)
  (d_rows_of:DefIn K "rows_of" o0)
  (d_book_of:DefIn K "book_of" pF)
  (d__law_queue:DefIn K "_law_queue" rZ)
  (b_Disk:PySem.W.nsIn K mainGlobals "Disk" = some (some (.ref C_Disk))) (pg_Disk:PySem.W.plainGet K C_Disk Str.empty=true) (hd_Disk:PySem.W.hasDictIn K C_Disk=true) (po_Disk:PySem.W.plainOver K C_Disk=true) (sa_Disk:PySem.W.findIn K (.ref C_Disk) "__setattr__" = some (some (.builtin "object.__setattr__"))) (mk_Disk:PySem.W.makesIn K C_Disk=true) (kc_Disk:PySem.W.keepIn K (.ref C_Disk)=true)
  (n_Disk_files:PySem.W.findIn K (.ref C_Disk) "files" = some none)
  (n_Disk_steps_done:PySem.W.findIn K (.ref C_Disk) "steps_done" = some none)
  (n_Disk_steps_ahead:PySem.W.findIn K (.ref C_Disk) "steps_ahead" = some none)
  (e_Disk___init__:MethIn K C_Disk "__init__" "Disk.__init__" xA)
  (e_Disk_names:MethIn K C_Disk "names" "Disk.names" wY)
  (e_Disk_check_file:MethIn K C_Disk "check_file" "Disk.check_file" jS)
  (e_Disk_size:MethIn K C_Disk "size" "Disk.size" AQ)
  (e_Disk_read:MethIn K C_Disk "read" "Disk.read" AS)
  (e_Disk_count_step:MethIn K C_Disk "count_step" "Disk.count_step" jP)
  (e_Disk_make:MethIn K C_Disk "make" "Disk.make" AU)
  (e_Disk_drop:MethIn K C_Disk "drop" "Disk.drop" AW)
  (e_Disk_cut:MethIn K C_Disk "cut" "Disk.cut" DB)
  (e_Disk_add:MethIn K C_Disk "add" "Disk.add" DC)
  (b_Queue:PySem.W.nsIn K mainGlobals "Queue" = some (some (.ref C_Queue))) (pg_Queue:PySem.W.plainGet K C_Queue Str.empty=true) (hd_Queue:PySem.W.hasDictIn K C_Queue=true) (po_Queue:PySem.W.plainOver K C_Queue=true) (sa_Queue:PySem.W.findIn K (.ref C_Queue) "__setattr__" = some (some (.builtin "object.__setattr__"))) (mk_Queue:PySem.W.makesIn K C_Queue=true) (kc_Queue:PySem.W.keepIn K (.ref C_Queue)=true)
  (n_Queue_disk:PySem.W.findIn K (.ref C_Queue) "disk" = some none)
  (n_Queue_most:PySem.W.findIn K (.ref C_Queue) "most" = some none)
  (n_Queue_hold:PySem.W.findIn K (.ref C_Queue) "hold" = some none)
  (n_Queue_tries:PySem.W.findIn K (.ref C_Queue) "tries" = some none)
  (n_Queue_book:PySem.W.findIn K (.ref C_Queue) "book" = some none)
  (n_Queue_first:PySem.W.findIn K (.ref C_Queue) "first" = some none)
  (n_Queue_last:PySem.W.findIn K (.ref C_Queue) "last" = some none)
  (n_Queue_writing:PySem.W.findIn K (.ref C_Queue) "writing" = some none)
  (n_Queue_holders:PySem.W.findIn K (.ref C_Queue) "holders" = some none)
  (n_Queue_now:PySem.W.findIn K (.ref C_Queue) "now" = some none)
  (e_Queue_sizes:MethIn K C_Queue "sizes" "Queue.sizes" o8)
  (e_Queue_letters:MethIn K C_Queue "letters" "Queue.letters" kQ)
  (e_Queue_coming:MethIn K C_Queue "coming" "Queue.coming" mS)
  (e_Queue_is_last_full:MethIn K C_Queue "is_last_full" "Queue.is_last_full" rW)
  (e_Queue_begin_segment:MethIn K C_Queue "begin_segment" "Queue.begin_segment" pC)
  (e_Queue_write:MethIn K C_Queue "write" "Queue.write" o6)
  (e_Queue_put:MethIn K C_Queue "put" "Queue.put" wX)
  (e_Queue_free_letters:MethIn K C_Queue "free_letters" "Queue.free_letters" rX)
  (e_Queue_ready:MethIn K C_Queue "ready" "Queue.ready" o9)
  (e_Queue_take:MethIn K C_Queue "take" "Queue.take" rT)
  (e_Queue_check_held:MethIn K C_Queue "check_held" "Queue.check_held" pB)
  (e_Queue_done:MethIn K C_Queue "done" "Queue.done" rY)
  (e_Queue_drop_first:MethIn K C_Queue "drop_first" "Queue.drop_first" pA)
  (e_Queue_sweep:MethIn K C_Queue "sweep" "Queue.sweep" o7)
  (e_Queue___init__:MethIn K C_Queue "__init__" "Queue.__init__" rV)
  (b_Book:PySem.W.nsIn K mainGlobals "Book" = some (some (.ref C_Book))) (pg_Book:PySem.W.plainGet K C_Book Str.empty=true) (hd_Book:PySem.W.hasDictIn K C_Book=true) (po_Book:PySem.W.plainOver K C_Book=true) (sa_Book:PySem.W.findIn K (.ref C_Book) "__setattr__" = some (some (.builtin "object.__setattr__"))) (mk_Book:PySem.W.makesIn K C_Book=true) (kc_Book:PySem.W.keepIn K (.ref C_Book)=true)
  (n_Book_entries:PySem.W.findIn K (.ref C_Book) "entries" = some none)
  (n_Book_upcoming:PySem.W.findIn K (.ref C_Book) "upcoming" = some none)
  (n_Book_parts:PySem.W.findIn K (.ref C_Book) "parts" = some none)
  (e_Book_letter:MethIn K C_Book "letter" "Book.letter" r8)
  (e_Book_letters:MethIn K C_Book "letters" "Book.letters" pD)
  (e_Book_enter_put:MethIn K C_Book "enter_put" "Book.enter_put" kU)
  (e_Book_enter_deal:MethIn K C_Book "enter_deal" "Book.enter_deal" jO)
  (e_Book_change_entry:MethIn K C_Book "change_entry" "Book.change_entry" sB)
  (e_Book_enter:MethIn K C_Book "enter" "Book.enter" wZ)
  (e_Book_numbers_in:MethIn K C_Book "numbers_in" "Book.numbers_in" kX)
  (e_Book___init__:MethIn K C_Book "__init__" "Book.__init__" AV)
  (aL:PySem.W.nsIn K mainGlobals "law" = some (some (.ref fL))) (lL:K.lookup fL=some ⟨ocL,odL,.func (PySem.W.fnOf "law" "law" (fU nO) (fD nO) (aH nO) .none kVL dcL pmL anL cdL ctL),slL⟩) (cL:PySem.W.codeIn K cdL "law" = true) (kL:PySem.W.keepIn K (.ref fL)=true)
  (z_len:PySem.W.nsIn K mainGlobals "len" = some none)
  (z_isinstance:PySem.W.nsIn K mainGlobals "isinstance" = some none)
  (z_all:PySem.W.nsIn K mainGlobals "all" = some none)
  (z_sum:PySem.W.nsIn K mainGlobals "sum" = some none)
  (z_tuple:PySem.W.nsIn K mainGlobals "tuple" = some none)
  (z_int:PySem.W.nsIn K mainGlobals "int" = some none)
  (z_bool:PySem.W.nsIn K mainGlobals "bool" = some none)
  (z_str:PySem.W.nsIn K mainGlobals "str" = some none)
  (z_range:PySem.W.nsIn K mainGlobals "range" = some none)
  (z_enumerate:PySem.W.nsIn K mainGlobals "enumerate" = some none)
  (z_list:PySem.W.nsIn K mainGlobals "list" = some none)
  (z_max:PySem.W.nsIn K mainGlobals "max" = some none)
  (z_min:PySem.W.nsIn K mainGlobals "min" = some none)
  (z_sorted:PySem.W.nsIn K mainGlobals "sorted" = some none)
  (v_HIGHEST_BYTE:PySem.W.nsIn K mainGlobals "HIGHEST_BYTE" = some (some (.int 255 t0)))
  (v_HIGHEST_NUMBER:PySem.W.nsIn K mainGlobals "HIGHEST_NUMBER" = some (some (.int 999999 t1)))
  (v_LONGEST_BODY:PySem.W.nsIn K mainGlobals "LONGEST_BODY" = some (some (.int 60 t2)))
  (v_HIGHEST_TIMES:PySem.W.nsIn K mainGlobals "HIGHEST_TIMES" = some (some (.int 9 t3)))
  (v_LARGEST_DEAL:PySem.W.nsIn K mainGlobals "LARGEST_DEAL" = some (some (.int 9 t4)))
  (v_CHECKS_SIZE:PySem.W.nsIn K mainGlobals "CHECKS_SIZE" = some (some (.int 2 t5)))
  (v_HEAD_SIZE:PySem.W.nsIn K mainGlobals "HEAD_SIZE" = some (some (.int 7 t6)))
  (v_LARGEST_MOST:PySem.W.nsIn K mainGlobals "LARGEST_MOST" = some (some (.int 2000 t7)))
  (v_LONGEST_HOLD:PySem.W.nsIn K mainGlobals "LONGEST_HOLD" = some (some (.int 99 t8)))
  (v_HIGHEST_TRIES:PySem.W.nsIn K mainGlobals "HIGHEST_TRIES" = some (some (.int 9 t9)))
  (v_LONGEST_HAND:PySem.W.nsIn K mainGlobals "LONGEST_HAND" = some (some (.int 6 t10)))
  (v_LONGEST_NAME:PySem.W.nsIn K mainGlobals "LONGEST_NAME" = some (some (.int 8 t11)))
  (v_MOST_STEPS:PySem.W.nsIn K mainGlobals "MOST_STEPS" = some (some (.int 100000 t12)))
  (v_NAME_SIGNS:PySem.W.nsIn K mainGlobals "NAME_SIGNS" = some (some (.str bV t13)))
  (v_HAND_SIGNS:PySem.W.nsIn K mainGlobals "HAND_SIGNS" = some (some (.str "abcdefghijklmnopqrstuvwxyz" t14)))
  (aK:PySem.W.nsIn K mainGlobals "KINDS" = some (some (.ref a_KINDS))) (qK:xS K a_KINDS=true)
  (a_BadName:PySem.W.nsIn K mainGlobals "BadName" = some (some (.ref C_BadName))) (x_BadName:cW K C_BadName=true)
  (a_Missing:PySem.W.nsIn K mainGlobals "Missing" = some (some (.ref C_Missing))) (x_Missing:cW K C_Missing=true)
  (a_There:PySem.W.nsIn K mainGlobals "There" = some (some (.ref C_There))) (x_There:cW K C_There=true)
  (a_Stopped:PySem.W.nsIn K mainGlobals "Stopped" = some (some (.ref C_Stopped))) (x_Stopped:cW K C_Stopped=true)
  (a_Broken:PySem.W.nsIn K mainGlobals "Broken" = some (some (.ref C_Broken))) (x_Broken:cW K C_Broken=true)
  (a_BadRow:PySem.W.nsIn K mainGlobals "BadRow" = some (some (.ref C_BadRow))) (x_BadRow:cW K C_BadRow=true)
  (a_BadSettings:PySem.W.nsIn K mainGlobals "BadSettings" = some (some (.ref C_BadSettings))) (x_BadSettings:cW K C_BadSettings=true)
  (a_BadBody:PySem.W.nsIn K mainGlobals "BadBody" = some (some (.ref C_BadBody))) (x_BadBody:cW K C_BadBody=true)
  (a_BadHand:PySem.W.nsIn K mainGlobals "BadHand" = some (some (.ref C_BadHand))) (x_BadHand:cW K C_BadHand=true)
  (a_BadNumber:PySem.W.nsIn K mainGlobals "BadNumber" = some (some (.ref C_BadNumber))) (x_BadNumber:cW K C_BadNumber=true)
  (a_NotHeld:PySem.W.nsIn K mainGlobals "NotHeld" = some (some (.ref C_NotHeld))) (x_NotHeld:cW K C_NotHeld=true)
  : ∃ fd:FuncData,(∀ (s:Shared) (v:Value),BindsTo s fd ⟨[v],[]⟩ [("_law_script",v)])/\∀ base:Heap,K.In base->base.Ns mainGlobals mg->FnOk l.prog w K mg base (CXE l.prog w) 11 fa fd ["_law_script"] (wI K):=by
 have e:=hfa.symm.trans (PySem.W.mg_of X G aL)
 cases e
 obtain⟨kk1,kk2⟩:=A5 qK
 have TK:TxtK K mg a_KINDS C_BadRow C_Broken C_Book:=⟨⟨PySem.W.mg_none_of X G z_len,PySem.W.mg_none_of X G z_isinstance,PySem.W.mg_none_of X G z_all,PySem.W.mg_none_of X G z_sum,PySem.W.mg_none_of X G z_tuple,PySem.W.mg_none_of X G z_int,PySem.W.mg_none_of X G z_bool,PySem.W.mg_none_of X G z_str,PySem.W.mg_none_of X G z_range,PySem.W.mg_none_of X G z_enumerate,⟨_,PySem.W.mg_of X G v_HIGHEST_BYTE⟩,⟨_,PySem.W.mg_of X G v_HIGHEST_NUMBER⟩,⟨_,PySem.W.mg_of X G v_LONGEST_BODY⟩,⟨_,PySem.W.mg_of X G v_HIGHEST_TIMES⟩,⟨_,PySem.W.mg_of X G v_LARGEST_DEAL⟩,PySem.W.mg_of X G aK,kk1,kk2,x_BadRow,PySem.W.mg_of X G a_BadRow⟩,PySem.W.mg_none_of X G z_list,PySem.W.mg_none_of X G z_max,PySem.W.mg_none_of X G z_sorted,x_Broken,PySem.W.mg_of X G a_Broken,⟨pg_Book,hd_Book,po_Book,sa_Book⟩,n_Book_entries,n_Book_upcoming,n_Book_parts⟩
 have TB:TxtB K mg a_KINDS C_BadRow C_Broken:=⟨⟨PySem.W.mg_none_of X G z_len,PySem.W.mg_none_of X G z_isinstance,PySem.W.mg_none_of X G z_all,PySem.W.mg_none_of X G z_sum,PySem.W.mg_none_of X G z_tuple,PySem.W.mg_none_of X G z_int,PySem.W.mg_none_of X G z_bool,PySem.W.mg_none_of X G z_str,PySem.W.mg_none_of X G z_range,PySem.W.mg_none_of X G z_enumerate,⟨_,PySem.W.mg_of X G v_HIGHEST_BYTE⟩,⟨_,PySem.W.mg_of X G v_HIGHEST_NUMBER⟩,⟨_,PySem.W.mg_of X G v_LONGEST_BODY⟩,⟨_,PySem.W.mg_of X G v_HIGHEST_TIMES⟩,⟨_,PySem.W.mg_of X G v_LARGEST_DEAL⟩,PySem.W.mg_of X G aK,kk1,kk2,x_BadRow,PySem.W.mg_of X G a_BadRow⟩,PySem.W.mg_none_of X G z_list,⟨_,PySem.W.mg_of X G v_CHECKS_SIZE⟩,⟨_,PySem.W.mg_of X G v_HEAD_SIZE⟩,x_Broken,PySem.W.mg_of X G a_Broken⟩
 have TD:TxtD K mg C_BadName C_Missing C_There C_Stopped C_BadRow C_BadNumber C_Disk:=⟨⟨PySem.W.mg_none_of X G z_len,PySem.W.mg_none_of X G z_isinstance,PySem.W.mg_none_of X G z_all,PySem.W.mg_none_of X G z_sum,PySem.W.mg_none_of X G z_tuple,PySem.W.mg_none_of X G z_int,PySem.W.mg_none_of X G z_bool,PySem.W.mg_none_of X G z_str,PySem.W.mg_none_of X G z_range,PySem.W.mg_none_of X G z_enumerate,PySem.W.mg_none_of X G z_list,PySem.W.mg_none_of X G z_sorted,⟨_,PySem.W.mg_of X G v_HIGHEST_BYTE⟩⟩,⟨_,PySem.W.mg_of X G v_NAME_SIGNS⟩,⟨_,PySem.W.mg_of X G v_LONGEST_NAME⟩,⟨_,PySem.W.mg_of X G v_MOST_STEPS⟩,x_BadName,PySem.W.mg_of X G a_BadName,x_Missing,PySem.W.mg_of X G a_Missing,x_There,PySem.W.mg_of X G a_There,x_Stopped,PySem.W.mg_of X G a_Stopped,x_BadRow,PySem.W.mg_of X G a_BadRow,x_BadNumber,PySem.W.mg_of X G a_BadNumber,⟨pg_Disk,hd_Disk,po_Disk,sa_Disk⟩,n_Disk_files,n_Disk_steps_done,n_Disk_steps_ahead⟩
 have TQ:TxtQ K mg ‹13›:=⟨PySem.W.mg_none_of X G z_len,PySem.W.mg_none_of X G z_int,PySem.W.mg_none_of X G z_sorted,PySem.W.mg_none_of X G z_sum,x_Broken,PySem.W.mg_of X G a_Broken,⟨pg_Book,hd_Book,po_Book,sa_Book⟩,⟨pg_Disk,hd_Disk,po_Disk,sa_Disk⟩,⟨pg_Queue,hd_Queue,po_Queue,sa_Queue⟩,PySem.W.mg_none_of X G z_min,⟨_,PySem.W.mg_of X G v_LARGEST_MOST⟩,⟨_,PySem.W.mg_of X G v_LONGEST_HOLD⟩,⟨_,PySem.W.mg_of X G v_HIGHEST_TRIES⟩,⟨_,PySem.W.mg_of X G v_HAND_SIGNS⟩,⟨_,PySem.W.mg_of X G v_LONGEST_HAND⟩,⟨_,PySem.W.mg_of X G v_HIGHEST_NUMBER⟩,⟨_,PySem.W.mg_of X G v_HIGHEST_TIMES⟩,x_BadSettings,PySem.W.mg_of X G a_BadSettings,x_BadBody,PySem.W.mg_of X G a_BadBody,x_BadHand,PySem.W.mg_of X G a_BadHand,x_NotHeld,PySem.W.mg_of X G a_NotHeld,n_Book_upcoming,n_Queue_disk,n_Queue_most,n_Queue_hold,n_Queue_tries,n_Queue_book,n_Queue_first,n_Queue_last,n_Queue_writing,n_Queue_holders,n_Queue_now,PySem.W.mg_none_of X G z_isinstance,PySem.W.mg_none_of X G z_tuple,PySem.W.mg_none_of X G z_enumerate,PySem.W.mg_none_of X G z_range,PySem.W.mg_none_of X G z_list,⟨_,PySem.W.mg_of X G v_LARGEST_DEAL⟩,x_BadNumber,PySem.W.mg_of X G a_BadNumber⟩
 obtain⟨f_is_number,fd_is_number,F_is_number,m_is_number,k_is_number⟩:=d_is_number.get X G
 obtain⟨f_check_steps,fd_check_steps,F_check_steps,m_check_steps,k_check_steps⟩:=d_check_steps.get X G
 obtain⟨f_segment_name,fd_segment_name,F_segment_name,m_segment_name,k_segment_name⟩:=d_segment_name.get X G
 obtain⟨f_segment_of,fd_segment_of,F_segment_of,m_segment_of,k_segment_of⟩:=d_segment_of.get X G
 obtain⟨f_segments_on,fd_segments_on,F_segments_on,m_segments_on,k_segments_on⟩:=d_segments_on.get X G
 obtain⟨f_is_word,fd_is_word,F_is_word,m_is_word,k_is_word⟩:=d_is_word.get X G
 obtain⟨f_check_name,fd_check_name,F_check_name,m_check_name,k_check_name⟩:=d_check_name.get X G
 obtain⟨f_is_bytes,fd_is_bytes,F_is_bytes,m_is_bytes,k_is_bytes⟩:=d_is_bytes.get X G
 obtain⟨f_fits_kind,fd_fits_kind,F_fits_kind,m_fits_kind,k_fits_kind⟩:=d_fits_kind.get X G
 obtain⟨f_is_row,fd_is_row,F_is_row,m_is_row,k_is_row⟩:=d_is_row.get X G
 obtain⟨f_check_body,fd_check_body,F_check_body,m_check_body,k_check_body⟩:=d_check_body.get X G
 obtain⟨f_checks_of,fd_checks_of,F_checks_of,m_checks_of,k_checks_of⟩:=d_checks_of.get X G
 obtain⟨f_row_bytes,fd_row_bytes,F_row_bytes,m_row_bytes,k_row_bytes⟩:=d_row_bytes.get X G
 obtain⟨f_row_end,fd_row_end,F_row_end,m_row_end,k_row_end⟩:=d_row_end.get X G
 obtain⟨f_row_from,fd_row_from,F_row_from,m_row_from,k_row_from⟩:=d_row_from.get X G
 obtain⟨f_rows_in,fd_rows_in,F_rows_in,m_rows_in,k_rows_in⟩:=d_rows_in.get X G
 obtain⟨f_without_last_parts,fd_without_last_parts,F_without_last_parts,m_without_last_parts,k_without_last_parts⟩:=d_without_last_parts.get X G
 obtain⟨f_make_good,fd_make_good,F_make_good,m_make_good,k_make_good⟩:=d_make_good.get X G
 obtain⟨f_check_hand,fd_check_hand,F_check_hand,m_check_hand,k_check_hand⟩:=d_check_hand.get X G
 obtain⟨f__law_cell,fd__law_cell,F__law_cell,m__law_cell,k__law_cell⟩:=d__law_cell.get X G
 obtain⟨f__law_seed,fd__law_seed,F__law_seed,m__law_seed,k__law_seed⟩:=d__law_seed.get X G
 obtain⟨f__law_pick,fd__law_pick,F__law_pick,m__law_pick,k__law_pick⟩:=d__law_pick.get X G
 obtain⟨f_check_settings,fd_check_settings,F_check_settings,m_check_settings,k_check_settings⟩:=d_check_settings.get X G
 obtain⟨f_rows_of,fd_rows_of,F_rows_of,m_rows_of,k_rows_of⟩:=d_rows_of.get X G
 obtain⟨f_book_of,fd_book_of,F_book_of,m_book_of,k_book_of⟩:=d_book_of.get X G
 obtain⟨f__law_queue,fd__law_queue,F__law_queue,m__law_queue,k__law_queue⟩:=d__law_queue.get X G
 obtain⟨f_D__init__,fd_D__init__,F_D__init__,a_D__init__,i_D__init__,k_D__init__⟩:=e_Disk___init__.get
 obtain⟨f_Dnames,fd_Dnames,F_Dnames,a_Dnames,i_Dnames,k_Dnames⟩:=e_Disk_names.get
 obtain⟨f_Dcheck_file,fd_Dcheck_file,F_Dcheck_file,a_Dcheck_file,i_Dcheck_file,k_Dcheck_file⟩:=e_Disk_check_file.get
 obtain⟨f_Dsize,fd_Dsize,F_Dsize,a_Dsize,i_Dsize,k_Dsize⟩:=e_Disk_size.get
 obtain⟨f_Dread,fd_Dread,F_Dread,a_Dread,i_Dread,k_Dread⟩:=e_Disk_read.get
 obtain⟨f_Dcount_step,fd_Dcount_step,F_Dcount_step,a_Dcount_step,i_Dcount_step,k_Dcount_step⟩:=e_Disk_count_step.get
 obtain⟨f_Dmake,fd_Dmake,F_Dmake,a_Dmake,i_Dmake,k_Dmake⟩:=e_Disk_make.get
 obtain⟨f_Ddrop,fd_Ddrop,F_Ddrop,a_Ddrop,i_Ddrop,k_Ddrop⟩:=e_Disk_drop.get
 obtain⟨f_Dcut,fd_Dcut,F_Dcut,a_Dcut,i_Dcut,k_Dcut⟩:=e_Disk_cut.get
 obtain⟨f_Dadd,fd_Dadd,F_Dadd,a_Dadd,i_Dadd,k_Dadd⟩:=e_Disk_add.get
 obtain⟨f_Qsizes,fd_Qsizes,F_Qsizes,a_Qsizes,i_Qsizes,k_Qsizes⟩:=e_Queue_sizes.get
 obtain⟨f_Qletters,fd_Qletters,F_Qletters,a_Qletters,i_Qletters,k_Qletters⟩:=e_Queue_letters.get
 obtain⟨f_Qcoming,fd_Qcoming,F_Qcoming,a_Qcoming,i_Qcoming,k_Qcoming⟩:=e_Queue_coming.get
 obtain⟨f_Qis_last_full,fd_Qis_last_full,F_Qis_last_full,a_Qis_last_full,i_Qis_last_full,k_Qis_last_full⟩:=e_Queue_is_last_full.get
 obtain⟨f_Qbegin_segment,fd_Qbegin_segment,F_Qbegin_segment,a_Qbegin_segment,i_Qbegin_segment,k_Qbegin_segment⟩:=e_Queue_begin_segment.get
 obtain⟨f_Qwrite,fd_Qwrite,F_Qwrite,a_Qwrite,i_Qwrite,k_Qwrite⟩:=e_Queue_write.get
 obtain⟨f_Qput,fd_Qput,F_Qput,a_Qput,i_Qput,k_Qput⟩:=e_Queue_put.get
 obtain⟨f_Qfree_letters,fd_Qfree_letters,F_Qfree_letters,a_Qfree_letters,i_Qfree_letters,k_Qfree_letters⟩:=e_Queue_free_letters.get
 obtain⟨f_Qready,fd_Qready,F_Qready,a_Qready,i_Qready,k_Qready⟩:=e_Queue_ready.get
 obtain⟨f_Qtake,fd_Qtake,F_Qtake,a_Qtake,i_Qtake,k_Qtake⟩:=e_Queue_take.get
 obtain⟨f_Qcheck_held,fd_Qcheck_held,F_Qcheck_held,a_Qcheck_held,i_Qcheck_held,k_Qcheck_held⟩:=e_Queue_check_held.get
 obtain⟨f_Qdone,fd_Qdone,F_Qdone,a_Qdone,i_Qdone,k_Qdone⟩:=e_Queue_done.get
 obtain⟨f_Qdrop_first,fd_Qdrop_first,F_Qdrop_first,a_Qdrop_first,i_Qdrop_first,k_Qdrop_first⟩:=e_Queue_drop_first.get
 obtain⟨f_Qsweep,fd_Qsweep,F_Qsweep,a_Qsweep,i_Qsweep,k_Qsweep⟩:=e_Queue_sweep.get
 obtain⟨f_Q__init__,fd_Q__init__,F_Q__init__,a_Q__init__,i_Q__init__,k_Q__init__⟩:=e_Queue___init__.get
 obtain⟨f_Bletter,fd_Bletter,F_Bletter,a_Bletter,i_Bletter,k_Bletter⟩:=e_Book_letter.get
 obtain⟨f_Bletters,fd_Bletters,F_Bletters,a_Bletters,i_Bletters,k_Bletters⟩:=e_Book_letters.get
 obtain⟨f_Benter_put,fd_Benter_put,F_Benter_put,a_Benter_put,i_Benter_put,k_Benter_put⟩:=e_Book_enter_put.get
 obtain⟨f_Benter_deal,fd_Benter_deal,F_Benter_deal,a_Benter_deal,i_Benter_deal,k_Benter_deal⟩:=e_Book_enter_deal.get
 obtain⟨f_Bchange_entry,fd_Bchange_entry,F_Bchange_entry,a_Bchange_entry,i_Bchange_entry,k_Bchange_entry⟩:=e_Book_change_entry.get
 obtain⟨f_Benter,fd_Benter,F_Benter,a_Benter,i_Benter,k_Benter⟩:=e_Book_enter.get
 obtain⟨f_Bnumbers_in,fd_Bnumbers_in,F_Bnumbers_in,a_Bnumbers_in,i_Bnumbers_in,k_Bnumbers_in⟩:=e_Book_numbers_in.get
 obtain⟨f_B__init__,fd_B__init__,F_B__init__,a_B__init__,i_B__init__,k_B__init__⟩:=e_Book___init__.get
 refine⟨PySem.W.fnOf "law" "law" (fU nO) (fD nO) (aH nO) .none kVL dcL pmL anL cdL ctL,fun s v=>.of_eq rfl,fun base _ _=>?_⟩
 have c_is_number:‹10› "is_number" 1 ["thing","least","most"] jI:=⟨f_is_number,fd_is_number,xL F_is_number TK.toTxtR,m_is_number,k_is_number,F_is_number.binds (ps:=["thing","least","most"]) ‹16›⟩
 have c_check_steps:‹10› "check_steps" 2 ["steps"] (gZ C_BadNumber):=⟨f_check_steps,fd_check_steps,sO F_check_steps TD c_is_number,m_check_steps,k_check_steps,F_check_steps.binds (ps:=["steps"]) ‹14›⟩
 have c_Disk:Maker l.prog w K mg base "Disk" C_Disk 3 ["self","steps"] (rK C_Disk C_BadNumber):=⟨f_D__init__,fd_D__init__,Dj F_D__init__ TD c_check_steps,⟨mk_Disk,a_D__init__,i_D__init__,kc_Disk⟩,PySem.W.mg_of X G b_Disk,F_D__init__.binds (ps:=["self","steps"]) ‹15›⟩
 have c_segment_name:‹10› "segment_name" 1 ["segment"] gE:=⟨f_segment_name,fd_segment_name,qI F_segment_name ,m_segment_name,k_segment_name,F_segment_name.binds (ps:=["segment"]) ‹14›⟩
 have c_segment_of:‹10› "segment_of" 2 ["name"] iI:=⟨f_segment_of,fd_segment_of,uI F_segment_of TQ c_segment_name,m_segment_of,k_segment_of,F_segment_of.binds (ps:=["name"]) ‹14›⟩
 have mD_names:‹11› C_Disk "names" 1 ["self"] (rJ C_Disk):=⟨f_Dnames,fd_Dnames,Dg F_Dnames TD,⟨a_Dnames,i_Dnames,k_Dnames⟩,F_Dnames.binds (ps:=["self"]) ‹14›⟩
 have c_segments_on:‹10› "segments_on" 3 ["disk"] (dY ‹13›):=⟨f_segments_on,fd_segments_on,sN F_segments_on TQ c_segment_of mD_names,m_segments_on,k_segments_on,F_segments_on.binds (ps:=["disk"]) ‹14›⟩
 have c_is_word:‹10› "is_word" 1 ["thing","signs","longest"] jH:=⟨f_is_word,fd_is_word,Ar F_is_word TD.toTxtN,m_is_word,k_is_word,F_is_word.binds (ps:=["thing","signs","longest"]) ‹16›⟩
 have c_check_name:‹10› "check_name" 2 ["name"] (fO C_BadName):=⟨f_check_name,fd_check_name,uL F_check_name TD c_is_word,m_check_name,k_check_name,F_check_name.binds (ps:=["name"]) ‹14›⟩
 have mD_check_file:‹11› C_Disk "check_file" 3 ["self","name"] (iM C_Disk C_BadName C_Missing):=⟨f_Dcheck_file,fd_Dcheck_file,uN F_Dcheck_file TD c_check_name,⟨a_Dcheck_file,i_Dcheck_file,k_Dcheck_file⟩,F_Dcheck_file.binds (ps:=["self","name"]) ‹15›⟩
 have mD_size:‹11› C_Disk "size" 4 ["self","name"] (lN C_Disk C_BadName C_Missing):=⟨f_Dsize,fd_Dsize,FG F_Dsize TD mD_check_file,⟨a_Dsize,i_Dsize,k_Dsize⟩,F_Dsize.binds (ps:=["self","name"]) ‹15›⟩
 have mQ_sizes:‹11› C_Queue "sizes" 5 ["self"] (bZ ‹13›):=⟨f_Qsizes,fd_Qsizes,Al F_Qsizes TQ c_segment_name c_segments_on mD_size,⟨a_Qsizes,i_Qsizes,k_Qsizes⟩,F_Qsizes.binds (ps:=["self"]) ‹14›⟩
 have mB_letter:‹11› C_Book "letter" 1 ["self","number"] (lO C_Book):=⟨f_Bletter,fd_Bletter,CK F_Bletter TK,⟨a_Bletter,i_Bletter,k_Bletter⟩,F_Bletter.binds (ps:=["self","number"]) ‹15›⟩
 have mB_letters:‹11› C_Book "letters" 2 ["self"] (jG C_Book):=⟨f_Bletters,fd_Bletters,Aq F_Bletters TK mB_letter,⟨a_Bletters,i_Bletters,k_Bletters⟩,F_Bletters.binds (ps:=["self"]) ‹14›⟩
 have mQ_letters:‹11› C_Queue "letters" 3 ["self"] (jF ‹13›):=⟨f_Qletters,fd_Qletters,xJ F_Qletters TQ mB_letters,⟨a_Qletters,i_Qletters,k_Qletters⟩,F_Qletters.binds (ps:=["self"]) ‹14›⟩
 have mQ_coming:‹11› C_Queue "coming" 1 ["self"] (kK ‹13›):=⟨f_Qcoming,fd_Qcoming,y7 F_Qcoming TQ,⟨a_Qcoming,i_Qcoming,k_Qcoming⟩,F_Qcoming.binds (ps:=["self"]) ‹14›⟩
 have c_is_bytes:‹10› "is_bytes" 2 ["thing"] fX:=⟨f_is_bytes,fd_is_bytes,y8 F_is_bytes TK.toTxtR c_is_number,m_is_bytes,k_is_bytes,F_is_bytes.binds (ps:=["thing"]) ‹14›⟩
 have c_fits_kind:‹10› "fits_kind" 1 ["kind","body"] jJ:=⟨f_fits_kind,fd_fits_kind,xM F_fits_kind TK.toTxtR,m_fits_kind,k_fits_kind,F_fits_kind.binds (ps:=["kind","body"]) ‹15›⟩
 have c_is_row:‹10› "is_row" 3 ["thing"] iV:=⟨f_is_row,fd_is_row,CL F_is_row TK.toTxtR c_is_number c_is_bytes c_fits_kind,m_is_row,k_is_row,F_is_row.binds (ps:=["thing"]) ‹14›⟩
 have c_check_body:‹10› "check_body" 4 ["body"] (iN ‹13›):=⟨f_check_body,fd_check_body,uO F_check_body TQ c_is_row,m_check_body,k_check_body,F_check_body.binds (ps:=["body"]) ‹14›⟩
 have c_checks_of:‹10› "checks_of" 1 ["behind"] gK:=⟨f_checks_of,fd_checks_of,xO F_checks_of TK.toTxtR,m_checks_of,k_checks_of,F_checks_of.binds (ps:=["behind"]) ‹14›⟩
 have c_row_bytes:‹10› "row_bytes" 4 ["row"] (eF C_BadRow):=⟨f_row_bytes,fd_row_bytes,xI F_row_bytes TK.toTxtR c_is_row c_checks_of,m_row_bytes,k_row_bytes,F_row_bytes.binds (ps:=["row"]) ‹14›⟩
 have c_row_end:‹10› "row_end" 1 ["some","start"] mF:=⟨f_row_end,fd_row_end,Ai F_row_end TB,m_row_end,k_row_end,F_row_end.binds (ps:=["some","start"]) ‹15›⟩
 have c_row_from:‹10› "row_from" 4 ["whole"] (kJ C_Broken):=⟨f_row_from,fd_row_from,y4 F_row_from TB c_is_row c_checks_of,m_row_from,k_row_from,F_row_from.binds (ps:=["whole"]) ‹14›⟩
 have c_rows_in:‹10› "rows_in" 5 ["some"] (gX C_BadRow C_Broken):=⟨f_rows_in,fd_rows_in,Ah F_rows_in TB c_is_bytes c_row_end c_row_from,m_rows_in,k_rows_in,F_rows_in.binds (ps:=["some"]) ‹14›⟩
 have c_without_last_parts:‹10› "without_last_parts" 1 ["rows"] jE:=⟨f_without_last_parts,fd_without_last_parts,Af F_without_last_parts TQ,m_without_last_parts,k_without_last_parts,F_without_last_parts.binds (ps:=["rows"]) ‹14›⟩
 have mD_read:‹11› C_Disk "read" 4 ["self","name"] (nF C_Disk C_BadName C_Missing):=⟨f_Dread,fd_Dread,FJ F_Dread TD mD_check_file,⟨a_Dread,i_Dread,k_Dread⟩,F_Dread.binds (ps:=["self","name"]) ‹15›⟩
 have mD_count_step:‹11› C_Disk "count_step" 1 ["self"] (iK C_Disk C_Stopped):=⟨f_Dcount_step,fd_Dcount_step,uK F_Dcount_step TD,⟨a_Dcount_step,i_Dcount_step,k_Dcount_step⟩,F_Dcount_step.binds (ps:=["self"]) ‹14›⟩
 have mD_make:‹11› C_Disk "make" 3 ["self","name"] (nG C_Disk C_BadName C_There C_Stopped):=⟨f_Dmake,fd_Dmake,FL F_Dmake TD c_check_name mD_count_step,⟨a_Dmake,i_Dmake,k_Dmake⟩,F_Dmake.binds (ps:=["self","name"]) ‹15›⟩
 have mD_drop:‹11› C_Disk "drop" 4 ["self","name"] (nJ C_Disk C_BadName C_Missing C_Stopped):=⟨f_Ddrop,fd_Ddrop,FN F_Ddrop TD mD_check_file mD_count_step,⟨a_Ddrop,i_Ddrop,k_Ddrop⟩,F_Ddrop.binds (ps:=["self","name"]) ‹15›⟩
 have mD_cut:‹11› C_Disk "cut" 4 ["self","name","size"] (wK C_Disk C_BadName C_Missing C_BadNumber C_Stopped):=⟨f_Dcut,fd_Dcut,GR F_Dcut TD c_is_number mD_check_file mD_count_step,⟨a_Dcut,i_Dcut,k_Dcut⟩,F_Dcut.binds (ps:=["self","name","size"]) ‹16›⟩
 have mD_add:‹11› C_Disk "add" 4 ["self","name","some"] (oR C_Disk C_BadName C_Missing C_BadRow C_Stopped):=⟨f_Dadd,fd_Dadd,GS F_Dadd TD c_is_bytes mD_check_file mD_count_step,⟨a_Dadd,i_Dadd,k_Dadd⟩,F_Dadd.binds (ps:=["self","name","some"]) ‹16›⟩
 have c_make_good:‹10› "make_good" 6 ["disk"] (gI ‹13›):=⟨f_make_good,fd_make_good,xK F_make_good TQ c_segment_name c_segments_on c_rows_in c_without_last_parts c_row_bytes mD_read mD_size mD_make mD_drop mD_cut mD_add,m_make_good,k_make_good,F_make_good.binds (ps:=["disk"]) ‹14›⟩
 have mB_enter_put:‹11› C_Book "enter_put" 1 ["self","number","body","segment"] (gJ C_Book C_Broken):=⟨f_Benter_put,fd_Benter_put,xN F_Benter_put TK,⟨a_Benter_put,i_Benter_put,k_Benter_put⟩,F_Benter_put.binds (ps:=["self","number","body","segment"]) fun _ _ _ _ _ _=>uS4 fun _ _ _ _=>rfl⟩
 have mB_enter_deal:‹11› C_Book "enter_deal" 2 ["self","number","many","segment"] (iJ C_Book C_Broken):=⟨f_Benter_deal,fd_Benter_deal,uJ F_Benter_deal TK mB_enter_put,⟨a_Benter_deal,i_Benter_deal,k_Benter_deal⟩,F_Benter_deal.binds (ps:=["self","number","many","segment"]) fun _ _ _ _ _ _=>uS4 fun _ _ _ _=>rfl⟩
 have mB_change_entry:‹11› C_Book "change_entry" 1 ["self","kind","number"] (oQ C_Book):=⟨f_Bchange_entry,fd_Bchange_entry,CM F_Bchange_entry TK,⟨a_Bchange_entry,i_Bchange_entry,k_Bchange_entry⟩,F_Bchange_entry.binds (ps:=["self","kind","number"]) ‹16›⟩
 have mB_enter:‹11› C_Book "enter" 3 ["self","row","segment"] (nI C_Book C_Broken):=⟨f_Benter,fd_Benter,Dh F_Benter TK mB_enter_put mB_enter_deal mB_change_entry,⟨a_Benter,i_Benter,k_Benter⟩,F_Benter.binds (ps:=["self","row","segment"]) ‹16›⟩
 have mQ_is_last_full:‹11› C_Queue "is_last_full" 5 ["self"] (oN ‹13›):=⟨f_Qis_last_full,fd_Qis_last_full,CG F_Qis_last_full TQ c_segment_name mD_size,⟨a_Qis_last_full,i_Qis_last_full,k_Qis_last_full⟩,F_Qis_last_full.binds (ps:=["self"]) ‹14›⟩
 have mQ_begin_segment:‹11› C_Queue "begin_segment" 5 ["self"] (mI ‹13›):=⟨f_Qbegin_segment,fd_Qbegin_segment,Ap F_Qbegin_segment TQ c_segment_name c_row_bytes mD_make mD_add,⟨a_Qbegin_segment,i_Qbegin_segment,k_Qbegin_segment⟩,F_Qbegin_segment.binds (ps:=["self"]) ‹14›⟩
 have mQ_write:‹11› C_Queue "write" 7 ["self","rows"] (gY ‹13›):=⟨f_Qwrite,fd_Qwrite,Aj F_Qwrite TQ c_segment_name c_row_bytes c_make_good mD_add mB_enter mQ_is_last_full mQ_begin_segment,⟨a_Qwrite,i_Qwrite,k_Qwrite⟩,F_Qwrite.binds (ps:=["self","rows"]) ‹15›⟩
 have mQ_put:‹11› C_Queue "put" 8 ["self","body"] (iU ‹13›):=⟨f_Qput,fd_Qput,Df F_Qput TQ c_check_body mQ_write,⟨a_Qput,i_Qput,k_Qput⟩,F_Qput.binds (ps:=["self","body"]) ‹15›⟩
 have c_check_hand:‹10› "check_hand" 2 ["hand"] (fP ‹13›):=⟨f_check_hand,fd_check_hand,uM F_check_hand TQ c_is_word,m_check_hand,k_check_hand,F_check_hand.binds (ps:=["hand"]) ‹14›⟩
 have mQ_free_letters:‹11› C_Queue "free_letters" 3 ["self"] (oO ‹13›):=⟨f_Qfree_letters,fd_Qfree_letters,CH F_Qfree_letters TQ mB_letters,⟨a_Qfree_letters,i_Qfree_letters,k_Qfree_letters⟩,F_Qfree_letters.binds (ps:=["self"]) ‹14›⟩
 have mQ_ready:‹11› C_Queue "ready" 4 ["self"] (oK ‹13› ltB):=⟨f_Qready,fd_Qready,Am F_Qready TQ mQ_free_letters,⟨a_Qready,i_Qready,k_Qready⟩,F_Qready.binds (ps:=["self"]) ‹14›⟩
 have mQ_take:‹11› C_Queue "take" 8 ["self","hand"] (gQ ‹13›):=⟨f_Qtake,fd_Qtake,CD F_Qtake TQ c_check_hand mB_letter mQ_ready mQ_write,⟨a_Qtake,i_Qtake,k_Qtake⟩,F_Qtake.binds (ps:=["self","hand"]) ‹15›⟩
 have mQ_check_held:‹11› C_Queue "check_held" 3 ["self","hand","number"] (mH ‹13›):=⟨f_Qcheck_held,fd_Qcheck_held,Ao F_Qcheck_held TQ c_is_number c_check_hand,⟨a_Qcheck_held,i_Qcheck_held,k_Qcheck_held⟩,F_Qcheck_held.binds (ps:=["self","hand","number"]) ‹16›⟩
 have mQ_done:‹11› C_Queue "done" 8 ["self","hand","number"] (eW ‹13›):=⟨f_Qdone,fd_Qdone,CI F_Qdone TQ mQ_check_held mQ_write,⟨a_Qdone,i_Qdone,k_Qdone⟩,F_Qdone.binds (ps:=["self","hand","number"]) ‹16›⟩
 have mB_numbers_in:‹11› C_Book "numbers_in" 1 ["self","segment"] (mJ C_Book):=⟨f_Bnumbers_in,fd_Bnumbers_in,xP F_Bnumbers_in TK,⟨a_Bnumbers_in,i_Bnumbers_in,k_Bnumbers_in⟩,F_Bnumbers_in.binds (ps:=["self","segment"]) ‹15›⟩
 have mQ_drop_first:‹11› C_Queue "drop_first" 5 ["self"] (mG ‹13›):=⟨f_Qdrop_first,fd_Qdrop_first,An F_Qdrop_first TQ c_segment_name mD_drop,⟨a_Qdrop_first,i_Qdrop_first,k_Qdrop_first⟩,F_Qdrop_first.binds (ps:=["self"]) ‹14›⟩
 have mQ_sweep:‹11› C_Queue "sweep" 6 ["self"] (eR ‹13›):=⟨f_Qsweep,fd_Qsweep,Ak F_Qsweep TQ mB_numbers_in mQ_drop_first,⟨a_Qsweep,i_Qsweep,k_Qsweep⟩,F_Qsweep.binds (ps:=["self"]) ‹14›⟩
 have c__law_cell:‹10› "_law_cell" 1 ["_law_script","_law_k"] (wL K):=⟨f__law_cell,fd__law_cell,FO F__law_cell TQ,m__law_cell,k__law_cell,F__law_cell.binds (ps:=["_law_script","_law_k"]) ‹15›⟩
 have c__law_seed:‹10› "_law_seed" 1 ["_law_seed_here","_law_k"] wG:=⟨f__law_seed,fd__law_seed,FI F__law_seed ,m__law_seed,k__law_seed,F__law_seed.binds (ps:=["_law_seed_here","_law_k"]) ‹15›⟩
 have c__law_pick:‹10› "_law_pick" 1 ["_law_seed_here","_law_many"] wH:=⟨f__law_pick,fd__law_pick,FK F__law_pick ,m__law_pick,k__law_pick,F__law_pick.binds (ps:=["_law_seed_here","_law_many"]) ‹15›⟩
 have c_check_settings:‹10› "check_settings" 2 ["most","hold","tries"] (eY ‹13›):=⟨f_check_settings,fd_check_settings,nW F_check_settings TQ c_is_number,m_check_settings,k_check_settings,F_check_settings.binds (ps:=["most","hold","tries"]) ‹16›⟩
 have c_rows_of:‹10› "rows_of" 6 ["disk","segment","last"] (mE ‹13›):=⟨f_rows_of,fd_rows_of,Ag F_rows_of TQ c_segment_name c_rows_in c_without_last_parts mD_read,m_rows_of,k_rows_of,F_rows_of.binds (ps:=["disk","segment","last"]) ‹16›⟩
 have c_Book:Maker l.prog w K mg base "Book" C_Book 1 ["self"] (wJ C_Book):=⟨f_B__init__,fd_B__init__,FM F_B__init__ TK,⟨mk_Book,a_B__init__,i_B__init__,kc_Book⟩,PySem.W.mg_of X G b_Book,F_B__init__.binds (ps:=["self"]) ‹14›⟩
 have c_book_of:‹10› "book_of" 7 ["disk"] (mK ‹13›):=⟨f_book_of,fd_book_of,As F_book_of TQ c_segments_on c_rows_of c_Book mB_enter,m_book_of,k_book_of,F_book_of.binds (ps:=["disk"]) ‹14›⟩
 have c_Queue:Maker l.prog w K mg base "Queue" C_Queue 8 ["self","disk","most","hold","tries"] (oM ‹13›):=⟨f_Q__init__,fd_Q__init__,CF F_Q__init__ TQ c_check_settings c_book_of c_make_good,⟨mk_Queue,a_Q__init__,i_Q__init__,kc_Queue⟩,PySem.W.mg_of X G b_Queue,F_Q__init__.binds (ps:=["self","disk","most","hold","tries"]) fun _ _ _ _ _ _=>uS5 fun _ _ _ _ _=>rfl⟩
 have c__law_queue:‹10› "_law_queue" 10 ["_law_disk","_law_settings"] (oP ‹13›):=⟨f__law_queue,fd__law_queue,CJ F__law_queue c_Queue,m__law_queue,k__law_queue,F__law_queue.binds (ps:=["_law_disk","_law_settings"]) ‹15›⟩
 exact GQ (A8 (st:=nO) lL cL kL) TQ c_Disk mQ_sizes mQ_letters mQ_coming mQ_put mQ_take mQ_done mQ_sweep c__law_cell c__law_seed c__law_pick c__law_queue
theorem walk {l:PySem.W.OpenLaw} {q:Program} {loose:List Str} {XP:(Str->Option Value)->Heap->Prop} {YP:World->Heap->Prop} {d:DefRec} {K:Params->PySem.W.Frag} (hn:l.most=some 63) (hdf:d.params.defaults=[])
  (hY:∀ (w:World) (h:Heap),YP w h->(K w.params).In h)
  (F:∀ (w:World) (mg:Str->Option Value) (fa:Addr) (h:Heap),(K w.params).In h->h.Ns mainGlobals mg->mg d.name=some (.ref fa)->
   ∃ fd:FuncData,(∀ (s:Shared) (u:Value),BindsTo s fd ⟨[u],[]⟩ [("_law_script",u)])/\∀ base:Heap,(K w.params).In base->base.Ns mainGlobals mg->FnOk l.prog w (K w.params) mg base (CXE l.prog w) 11 fa fd ["_law_script"] (wI (K w.params))) :
  PySem.W.WalkO q loose XP YP l.row.toRowW d [] (fun f vs=>PySem.call f vs):=
 L2.Em (n:=63) (k:=11) (x:="_law_script") (CX:=fun w=>CXE l.prog w) (sp:=fun w=>wI (K w.params)) hn (by decide) hdf ⟨rfl,by decide,by decide⟩ hY F (fun _ _ a ns hl _ hS=>⟨a,ns,rfl,hS,fun _=>rfl⟩) fun _ _ _ _ _ ⟨_,_,_,_,_,z⟩=>z
end Qh
end
end
section
namespace PySem.W.Fast
theorem tw599478267109302574:True:=⟨⟩
theorem tw17226007438913255073:True:=⟨⟩
theorem tw3001198213700473538:True:=⟨⟩
theorem tw6427120875701346362:True:=⟨⟩
theorem tw2376176828127257808:True:=⟨⟩
theorem tw7848765480715677241:True:=⟨⟩
theorem tw13452868070559058845:True:=⟨⟩
theorem tw11795196224644513260:True:=⟨⟩
theorem tw13507482848133121942:True:=⟨⟩
theorem tw3621196829141102111:True:=⟨⟩
theorem tw15309846048068678514:True:=⟨⟩
theorem tw11738168370482559543:True:=⟨⟩
theorem tw4994723765927735243:True:=⟨⟩
theorem tw14846129982874523702:True:=⟨⟩
theorem tw16865088008559869161:True:=⟨⟩
theorem tw8828523048580937498:True:=⟨⟩
theorem tw15981047641460602515:True:=⟨⟩
theorem tw11044013584616745404:True:=⟨⟩
theorem tw9060931783533856044:True:=⟨⟩
theorem tw7826534143491736065:True:=⟨⟩
theorem tw12858175042270635686:True:=⟨⟩
theorem tw2133881255955317088:True:=⟨⟩
theorem tw14110391829791539875:True:=⟨⟩
theorem tw4612787429533140293:True:=⟨⟩
theorem tw1505035656406506056:True:=⟨⟩
theorem tw7977510654704863954:True:=⟨⟩
theorem tw7958621636684972807:True:=⟨⟩
theorem tw1151281078857090771:True:=⟨⟩
theorem tw13180186246581403849:True:=⟨⟩
theorem tw12415206983866903747:True:=⟨⟩
theorem tw15914061575399558084:True:=⟨⟩
theorem tw14526880135225474546:True:=⟨⟩
theorem tw11155790588662404836:True:=⟨⟩
theorem tw149231015967318007:True:=⟨⟩
theorem tw7963794335272532642:True:=⟨⟩
theorem tw8308165373403467180:True:=⟨⟩
theorem tw10899411311571706309:True:=⟨⟩
theorem tw15644668779090782947:True:=⟨⟩
theorem tw9712053604502812182:True:=⟨⟩
theorem tw455294174799373135:True:=⟨⟩
theorem tw1378272332746363333:True:=⟨⟩
theorem tw8957650068616799582:True:=⟨⟩
theorem tw11138529245707277149:True:=⟨⟩
theorem tw11002827125479907279:True:=⟨⟩
theorem tw13999892986285742371:True:=⟨⟩
theorem tw11049337999283253236:True:=⟨⟩
theorem tw61630105985007224:True:=⟨⟩
theorem tw11932227393953451663:True:=⟨⟩
theorem tw6874416496692799389:True:=⟨⟩
theorem tw17389888452089680251:True:=⟨⟩
theorem tw10382427045606250944:True:=⟨⟩
theorem tw2094562868360227713:True:=⟨⟩
theorem tw10323834250567227493:True:=⟨⟩
theorem tw6900476167574191295:True:=⟨⟩
theorem tw5603767126629644897:True:=⟨⟩
theorem tw4423601284694595234:True:=⟨⟩
theorem tw14202207697158675865:True:=⟨⟩
theorem tw3584721235760555137:True:=⟨⟩
theorem tw14876748162813943743:True:=⟨⟩
theorem tw186508653259861799:True:=⟨⟩
theorem tw4985342221008697637:True:=⟨⟩
theorem tw1139441835726035739:True:=⟨⟩
theorem tw5881288786403464817:True:=⟨⟩
theorem tw6405211119859822902:True:=⟨⟩
theorem tw12488546798503203156:True:=⟨⟩
theorem tw1249127627213320163:True:=⟨⟩
theorem tw11811306094991786982:True:=⟨⟩
theorem tw832352529197382346:True:=⟨⟩
theorem tw5645851916926077034:True:=⟨⟩
theorem tw7220865874736825100:True:=⟨⟩
theorem tw10333396344018098013:True:=⟨⟩
theorem tw5017151332286552562:True:=⟨⟩
theorem tw16015786336128661408:True:=⟨⟩
theorem tw380269480200250377:True:=⟨⟩
theorem tw13210687490744410202:True:=⟨⟩
theorem tw8871668108620976730:True:=⟨⟩
theorem tw14881053212499818319:True:=⟨⟩
theorem tw4151350516006685706:True:=⟨⟩
theorem tw13590140537316786041:True:=⟨⟩
theorem tw1554610337302071332:True:=⟨⟩
theorem tw4466201294699969524:True:=⟨⟩
theorem tw310251336797569589:True:=⟨⟩
theorem tw8940488384729141624:True:=⟨⟩
theorem tw9224971004398950877:True:=⟨⟩
theorem tw11991468670250723921:True:=⟨⟩
theorem tw9147605103417564111:True:=⟨⟩
theorem tw2005886950919181464:True:=⟨⟩
theorem tw7010044170177137541:True:=⟨⟩
theorem tw17551627022644193159:True:=⟨⟩
theorem tw15407219259820753063:True:=⟨⟩
theorem tw18413701175918933952:True:=⟨⟩
theorem tw13281226293680616656:True:=⟨⟩
theorem tw15734030776241857088:True:=⟨⟩
theorem tw11209908838870794409:True:=⟨⟩
theorem tw6503756246507443087:True:=⟨⟩
theorem tw1460587662689271850:True:=⟨⟩
theorem tw15251117742858833874:True:=⟨⟩
theorem tw10608399808910745774:True:=⟨⟩
theorem tw4835161244731567149:True:=⟨⟩
theorem tw7665024432753965543:True:=⟨⟩
theorem tw4370183339357859293:True:=⟨⟩
theorem tw8392800551987221438:True:=⟨⟩
theorem tw3951931817033988738:True:=⟨⟩
theorem tw514337649579589709:True:=⟨⟩
theorem tw15858794720170644092:True:=⟨⟩
theorem tw10951455880356810765:True:=⟨⟩
theorem tw307102493674909294:True:=⟨⟩
theorem tw12331134271735956722:True:=⟨⟩
theorem tw6578547839440349000:True:=⟨⟩
theorem tw4294569355350483580:True:=⟨⟩
theorem tw16835203258511012058:True:=⟨⟩
theorem tw9080981022443132586:True:=⟨⟩
theorem tw15263345690392162387:True:=⟨⟩
theorem tw2677127115024101500:True:=⟨⟩
theorem tw5504900971124915001:True:=⟨⟩
theorem tw14726792057997620925:True:=⟨⟩
theorem tw12120217375032197806:True:=⟨⟩
theorem tw5558728863910309978:True:=⟨⟩
theorem tw18129311352447388065:True:=⟨⟩
theorem tw14861843088681064645:True:=⟨⟩
theorem tw8346486144384512185:True:=⟨⟩
theorem tw7908370348405579374:True:=⟨⟩
theorem tw14342282062679162573:True:=⟨⟩
theorem tw6565573479738198423:True:=⟨⟩
theorem tw6503166182979650566:True:=⟨⟩
theorem tw13223003263111575447:True:=⟨⟩
theorem tw2317954969123815581:True:=⟨⟩
theorem tw13129137289343826984:True:=⟨⟩
theorem tw15319304600417729567:True:=⟨⟩
theorem tw11803985304160017790:True:=⟨⟩
theorem tw6025286007007197695:True:=⟨⟩
theorem tw7288676656426959081:True:=⟨⟩
theorem tw2446981807811388046:True:=⟨⟩
theorem tw18252884353079193018:True:=⟨⟩
theorem tw6690291135155629632:True:=⟨⟩
theorem tw17193826610603560013:True:=⟨⟩
theorem tw15330560358951298128:True:=⟨⟩
theorem tw5013454795584184887:True:=⟨⟩
theorem tw16638478654329628440:True:=⟨⟩
theorem tw17995243713858860877:True:=⟨⟩
theorem tw4623648408980585549:True:=⟨⟩
theorem tw12954204239818548295:True:=⟨⟩
theorem tw1664853737315915954:True:=⟨⟩
theorem tw1258737305713329254:True:=⟨⟩
theorem tw8323214082834110142:True:=⟨⟩
theorem tw17635554487969785471:True:=⟨⟩
theorem tw9351336924685676616:True:=⟨⟩
theorem tw4475187530286510548:True:=⟨⟩
theorem tw7830910781865907793:True:=⟨⟩
theorem tw1941010733729997308:True:=⟨⟩
theorem tw17513547032523558170:True:=⟨⟩
theorem tw1196843547503385081:True:=⟨⟩
theorem tw13735746226114453776:True:=⟨⟩
theorem tw10414571806171206838:True:=⟨⟩
theorem tw4991561290045838587:True:=⟨⟩
theorem tw10260673973333596544:True:=⟨⟩
theorem tw5585300441460716004:True:=⟨⟩
theorem tw12780535354714129633:True:=⟨⟩
theorem tw16037378438372303281:True:=⟨⟩
theorem tw6040474633034585433:True:=⟨⟩
theorem tw8076296768383141345:True:=⟨⟩
theorem tw1252798124191254951:True:=⟨⟩
theorem tw14374068774206147049:True:=⟨⟩
theorem tw17398490510441440622:True:=⟨⟩
theorem tw9895700624457889028:True:=⟨⟩
theorem tw8817226044260472593:True:=⟨⟩
theorem tw2743503830714822986:True:=⟨⟩
theorem tw16741973168355412913:True:=⟨⟩
theorem tw16246319809046122506:True:=⟨⟩
theorem tw16131376644364744062:True:=⟨⟩
theorem tw7435169467790215310:True:=⟨⟩
theorem tw130344789226929422:True:=⟨⟩
theorem tw12777545543001653249:True:=⟨⟩
theorem tw4259626098058902067:True:=⟨⟩
theorem tw1507468180170825398:True:=⟨⟩
theorem tw3035602697910456977:True:=⟨⟩
theorem tw16212413425680186896:True:=⟨⟩
theorem tw11068512532013527177:True:=⟨⟩
theorem tw5001313555629332838:True:=⟨⟩
theorem tw14797046607267875990:True:=⟨⟩
theorem tw7207926894010045794:True:=⟨⟩
theorem tw13143662228767845272:True:=⟨⟩
theorem tw6358056388779511146:True:=⟨⟩
theorem tw2627606749411436964:True:=⟨⟩
theorem tw2170132684345335434:True:=⟨⟩
theorem tw7854607197318366653:True:=⟨⟩
theorem tw6279509221183520943:True:=⟨⟩
theorem tw10743930166524403403:True:=⟨⟩
theorem tw7556440421621986863:True:=⟨⟩
theorem tw6322218744615463801:True:=⟨⟩
theorem tw10291071927726202223:True:=⟨⟩
theorem tw9974080431902427003:True:=⟨⟩
theorem tw2452736674835426981:True:=⟨⟩
theorem tw17675130174911381301:True:=⟨⟩
theorem tw17053791485357624835:True:=⟨⟩
theorem tw987249692878003998:True:=⟨⟩
theorem tw12366856303294319292:True:=⟨⟩
theorem tw3721727104173353916:True:=⟨⟩
theorem tw4944424153898007397:True:=⟨⟩
theorem tw2995876271678023658:True:=⟨⟩
theorem tw11813362746871670814:True:=⟨⟩
theorem tw1039820661549943257:True:=⟨⟩
theorem tw11550421134320942063:True:=⟨⟩
theorem tw11314820694224685314:True:=⟨⟩
theorem tw3293243277503198812:True:=⟨⟩
theorem tw16742752337778481922:True:=⟨⟩
theorem tw8701358104007011082:True:=⟨⟩
theorem tw3414097759855562121:True:=⟨⟩
theorem tw11858499390417386436:True:=⟨⟩
theorem tw5852301872483023626:True:=⟨⟩
theorem tw7443708204918274285:True:=⟨⟩
theorem tw6683379793072395278:True:=⟨⟩
theorem tw2045364578696139322:True:=⟨⟩
theorem tw11954670565890516851:True:=⟨⟩
theorem tw13753529389809955921:True:=⟨⟩
theorem tw4417640295595471974:True:=⟨⟩
theorem tw8702904025963711077:True:=⟨⟩
theorem tw3393917370421958724:True:=⟨⟩
theorem tw996016975954352323:True:=⟨⟩
theorem tw11586569653837918330:True:=⟨⟩
theorem tw17870858286239266548:True:=⟨⟩
theorem tw3970025053923789848:True:=⟨⟩
theorem tw2425500677710638425:True:=⟨⟩
theorem tw864129633366701522:True:=⟨⟩
theorem tw4861122797232262132:True:=⟨⟩
theorem tw13043765992047028663:True:=⟨⟩
theorem tw14701782820529362365:True:=⟨⟩
theorem tw7268786257750286216:True:=⟨⟩
theorem tw1113274200362558958:True:=⟨⟩
theorem tw15514377835182140877:True:=⟨⟩
theorem tw11257678272957510603:True:=⟨⟩
theorem tw15750387084800007389:True:=⟨⟩
theorem tw6746540823206623495:True:=⟨⟩
theorem tw10219364490758793609:True:=⟨⟩
theorem tw15005674025082030384:True:=⟨⟩
theorem tw508720590470203783:True:=⟨⟩
theorem tw9107072788616706677:True:=⟨⟩
theorem tw5680106619609317135:True:=⟨⟩
theorem tw13945095544425240637:True:=⟨⟩
theorem tw14657123075691561776:True:=⟨⟩
theorem tw12675075458456754722:True:=⟨⟩
theorem tw5646073292402421622:True:=⟨⟩
theorem tw10780610059548795707:True:=⟨⟩
theorem tw7815225772604773680:True:=⟨⟩
theorem tw10138705507122190295:True:=⟨⟩
theorem tw16588005299423189369:True:=⟨⟩
theorem tw16067828684395859422:True:=⟨⟩
theorem tw2740259661161569995:True:=⟨⟩
theorem tw13482430022127572064:True:=⟨⟩
theorem tw13909463096503467049:True:=⟨⟩
theorem tw13706700514894315190:True:=⟨⟩
theorem tw9418818486979403784:True:=⟨⟩
theorem tw9310731632893489480:True:=⟨⟩
theorem tw16422170624457620783:True:=⟨⟩
theorem tw1927252503922228879:True:=⟨⟩
theorem tw2650269300088514208:True:=⟨⟩
theorem tw15241644122182571669:True:=⟨⟩
theorem tw1406540753898306381:True:=⟨⟩
theorem tw8673182652756191513:True:=⟨⟩
theorem tw328299159609071724:True:=⟨⟩
theorem tw11410807417912679332:True:=⟨⟩
theorem tw16947296707804719149:True:=⟨⟩
theorem tw13001281010078464349:True:=⟨⟩
theorem tw13691032925556852926:True:=⟨⟩
theorem tw5942485659472138545:True:=⟨⟩
theorem tw4149204965647222562:True:=⟨⟩
theorem tw6401193961985155951:True:=⟨⟩
theorem tw5673029754892119594:True:=⟨⟩
theorem tw13526978634085490881:True:=⟨⟩
theorem tw10001412473191834967:True:=⟨⟩
theorem tw15182828217010067417:True:=⟨⟩
theorem tw336076157814880567:True:=⟨⟩
theorem tw8991685101906055988:True:=⟨⟩
theorem tw18344596533756923835:True:=⟨⟩
theorem tw8921494215825798608:True:=⟨⟩
theorem tw7625654171250177479:True:=⟨⟩
theorem tw7026070199720714193:True:=⟨⟩
theorem tw13217899956056434023:True:=⟨⟩
theorem tw13630551227518006820:True:=⟨⟩
theorem tw13877980288245272441:True:=⟨⟩
theorem tw13633591914729570983:True:=⟨⟩
theorem tw9719695452775833336:True:=⟨⟩
theorem tw10888488551906397055:True:=⟨⟩
theorem tw13901195250035733597:True:=⟨⟩
theorem tw5633396329433546228:True:=⟨⟩
theorem tw14951877139106278482:True:=⟨⟩
theorem tw406049797409057253:True:=⟨⟩
theorem tw2826121903907441723:True:=⟨⟩
theorem tw9075598142945505921:True:=⟨⟩
theorem tw703280300101387162:True:=⟨⟩
theorem tw13047891523554217000:True:=⟨⟩
theorem tw1622072304759644124:True:=⟨⟩
theorem tw11778393161420478016:True:=⟨⟩
theorem tw16770458011952205347:True:=⟨⟩
theorem tw5884758151521804047:True:=⟨⟩
theorem tw9174594481864436930:True:=⟨⟩
theorem tw2431553841291548235:True:=⟨⟩
theorem tw7245931349999317054:True:=⟨⟩
theorem tw17326601553612198351:True:=⟨⟩
theorem tw5396239737160226800:True:=⟨⟩
theorem tw4307206259281356259:True:=⟨⟩
theorem tw13925721377961911482:True:=⟨⟩
theorem tw13734092927551073048:True:=⟨⟩
theorem tw10209165222758185045:True:=⟨⟩
theorem tw16613653368535846139:True:=⟨⟩
theorem tw5905564196817232569:True:=⟨⟩
theorem tw7788026427331710854:True:=⟨⟩
theorem tw3928691511356230908:True:=⟨⟩
theorem tw2246491205955094590:True:=⟨⟩
theorem tw12355566367369442167:True:=⟨⟩
theorem tw17322403618247305767:True:=⟨⟩
theorem tw7053277818235173762:True:=⟨⟩
theorem tw13837271502418845881:True:=⟨⟩
theorem tw1018235361784808233:True:=⟨⟩
theorem tw6309007064113502021:True:=⟨⟩
theorem tw9334383469430299604:True:=⟨⟩
theorem tw8791890364202859535:True:=⟨⟩
theorem tw7277189900299815268:True:=⟨⟩
theorem tw1182549883277178123:True:=⟨⟩
theorem tw15616391641681989556:True:=⟨⟩
theorem tw5212481330892948135:True:=⟨⟩
theorem tw12209258298336884896:True:=⟨⟩
theorem tw9713466600527610063:True:=⟨⟩
theorem tw12725935127716619805:True:=⟨⟩
theorem tw4167131520966796921:True:=⟨⟩
theorem tw3137362762700061068:True:=⟨⟩
theorem tw11139259730223895120:True:=⟨⟩
theorem tw5180475958054996976:True:=⟨⟩
theorem tw10720237321383699062:True:=⟨⟩
theorem tw5105323300085107927:True:=⟨⟩
theorem tw16336028811102280528:True:=⟨⟩
theorem tw3782249550946581386:True:=⟨⟩
theorem tw17074668216911989885:True:=⟨⟩
theorem tw13932450281719664483:True:=⟨⟩
theorem tw12058870007598130338:True:=⟨⟩
theorem tw16933533816966991843:True:=⟨⟩
theorem tw9197256878477289599:True:=⟨⟩
theorem tw4795224180381244916:True:=⟨⟩
theorem tw11162639583381725969:True:=⟨⟩
theorem tw805659501518430780:True:=⟨⟩
theorem tw9122443190597037803:True:=⟨⟩
theorem tw4237156221005799678:True:=⟨⟩
theorem tw108395531132302824:True:=⟨⟩
theorem tw5067714321052806934:True:=⟨⟩
theorem tw5340735544784356214:True:=⟨⟩
theorem tw13875429108520141095:True:=⟨⟩
theorem tw17765753872559458816:True:=⟨⟩
theorem tw5520839042405446582:True:=⟨⟩
theorem tw15760265078573545415:True:=⟨⟩
theorem tw3657959253762689651:True:=⟨⟩
theorem tw17239854191977796764:True:=⟨⟩
theorem tw2754594929394056669:True:=⟨⟩
theorem tw8253490955181336139:True:=⟨⟩
theorem tw14791198807371172427:True:=⟨⟩
end PySem.W.Fast
open PySem PySem.W PyProof.Rows
set_option maxRecDepth 100000 in
set_option maxHeartbeats 0 in
theorem PySem.Challenge.cw_queuehold_k25_whole_room_given_back_holds : PySem.Challenge.rw_queuehold_k25_whole_room_given_back.Holds := by
 w_on; o_law; k_head; (case hw=>w_witness2)
 k_fill
 refine Qh.walk (l:=PySem.Challenge.rw_queuehold_k25_whole_room_given_back) rfl rfl (fun w h Y=>PySem.W.kIn_of Y) ?F
 case F=>
  intro w mg fa h KX G hmg
  refine' Qh.GV KX G hmg ?d_is_number ?d_check_steps ?d_segment_name ?d_segment_of ?d_segments_on ?d_is_word ?d_check_name ?d_is_bytes ?d_fits_kind ?d_is_row ?d_check_body ?d_checks_of ?d_row_bytes ?d_row_end ?d_row_from ?d_rows_in ?d_without_last_parts ?d_make_good ?d_check_hand ?d__law_cell ?d__law_seed ?d__law_pick ?d_check_settings ?d_rows_of ?d_book_of ?d__law_queue ?b_Disk ?pg_Disk ?hd_Disk ?po_Disk ?sa_Disk ?mk_Disk ?kc_Disk ?n_Disk_files ?n_Disk_steps_done ?n_Disk_steps_ahead ?e_Disk___init__ ?e_Disk_names ?e_Disk_check_file ?e_Disk_size ?e_Disk_read ?e_Disk_count_step ?e_Disk_make ?e_Disk_drop ?e_Disk_cut ?e_Disk_add ?b_Queue ?pg_Queue ?hd_Queue ?po_Queue ?sa_Queue ?mk_Queue ?kc_Queue ?n_Queue_disk ?n_Queue_most ?n_Queue_hold ?n_Queue_tries ?n_Queue_book ?n_Queue_first ?n_Queue_last ?n_Queue_writing ?n_Queue_holders ?n_Queue_now ?e_Queue_sizes ?e_Queue_letters ?e_Queue_coming ?e_Queue_is_last_full ?e_Queue_begin_segment ?e_Queue_write ?e_Queue_put ?e_Queue_free_letters ?e_Queue_ready ?e_Queue_take ?e_Queue_check_held ?e_Queue_done ?e_Queue_drop_first ?e_Queue_sweep ?e_Queue___init__ ?b_Book ?pg_Book ?hd_Book ?po_Book ?sa_Book ?mk_Book ?kc_Book ?n_Book_entries ?n_Book_upcoming ?n_Book_parts ?e_Book_letter ?e_Book_letters ?e_Book_enter_put ?e_Book_enter_deal ?e_Book_change_entry ?e_Book_enter ?e_Book_numbers_in ?e_Book___init__ ?aL ?lL ?cL ?kL ?z_len ?z_isinstance ?z_all ?z_sum ?z_tuple ?z_int ?z_bool ?z_str ?z_range ?z_enumerate ?z_list ?z_max ?z_min ?z_sorted ?v_HIGHEST_BYTE ?v_HIGHEST_NUMBER ?v_LONGEST_BODY ?v_HIGHEST_TIMES ?v_LARGEST_DEAL ?v_CHECKS_SIZE ?v_HEAD_SIZE ?v_LARGEST_MOST ?v_LONGEST_HOLD ?v_HIGHEST_TRIES ?v_LONGEST_HAND ?v_LONGEST_NAME ?v_MOST_STEPS ?v_NAME_SIGNS ?v_HAND_SIGNS ?aK ?qK ?a_BadName ?x_BadName ?a_Missing ?x_Missing ?a_There ?x_There ?a_Stopped ?x_Stopped ?a_Broken ?x_Broken ?a_BadRow ?x_BadRow ?a_BadSettings ?x_BadSettings ?a_BadBody ?x_BadBody ?a_BadHand ?x_BadHand ?a_BadNumber ?x_BadNumber ?a_NotHeld ?x_NotHeld
  case d_is_number=>refine' Qh.bM ?a ?l ?c ?k; (case a=>k_is); (case l=>k_is); (case c=>k_is); (case k=>k_is)
  case d_check_steps=>refine' Qh.bM ?a ?l ?c ?k; (case a=>k_is); (case l=>k_is); (case c=>k_is); (case k=>k_is)
  case d_segment_name=>refine' Qh.bM ?a ?l ?c ?k; (case a=>k_is); (case l=>k_is); (case c=>k_is); (case k=>k_is)
  case d_segment_of=>refine' Qh.bM ?a ?l ?c ?k; (case a=>k_is); (case l=>k_is); (case c=>k_is); (case k=>k_is)
  case d_segments_on=>refine' Qh.bM ?a ?l ?c ?k; (case a=>k_is); (case l=>k_is); (case c=>k_is); (case k=>k_is)
  case d_is_word=>refine' Qh.bM ?a ?l ?c ?k; (case a=>k_is); (case l=>k_is); (case c=>k_is); (case k=>k_is)
  case d_check_name=>refine' Qh.bM ?a ?l ?c ?k; (case a=>k_is); (case l=>k_is); (case c=>k_is); (case k=>k_is)
  case d_is_bytes=>refine' Qh.bM ?a ?l ?c ?k; (case a=>k_is); (case l=>k_is); (case c=>k_is); (case k=>k_is)
  case d_fits_kind=>refine' Qh.bM ?a ?l ?c ?k; (case a=>k_is); (case l=>k_is); (case c=>k_is); (case k=>k_is)
  case d_is_row=>refine' Qh.bM ?a ?l ?c ?k; (case a=>k_is); (case l=>k_is); (case c=>k_is); (case k=>k_is)
  case d_check_body=>refine' Qh.bM ?a ?l ?c ?k; (case a=>k_is); (case l=>k_is); (case c=>k_is); (case k=>k_is)
  case d_checks_of=>refine' Qh.bM ?a ?l ?c ?k; (case a=>k_is); (case l=>k_is); (case c=>k_is); (case k=>k_is)
  case d_row_bytes=>refine' Qh.bM ?a ?l ?c ?k; (case a=>k_is); (case l=>k_is); (case c=>k_is); (case k=>k_is)
  case d_row_end=>refine' Qh.bM ?a ?l ?c ?k; (case a=>k_is); (case l=>k_is); (case c=>k_is); (case k=>k_is)
  case d_row_from=>refine' Qh.bM ?a ?l ?c ?k; (case a=>k_is); (case l=>k_is); (case c=>k_is); (case k=>k_is)
  case d_rows_in=>refine' Qh.bM ?a ?l ?c ?k; (case a=>k_is); (case l=>k_is); (case c=>k_is); (case k=>k_is)
  case d_without_last_parts=>refine' Qh.bM ?a ?l ?c ?k; (case a=>k_is); (case l=>k_is); (case c=>k_is); (case k=>k_is)
  case d_make_good=>refine' Qh.bM ?a ?l ?c ?k; (case a=>k_is); (case l=>k_is); (case c=>k_is); (case k=>k_is)
  case d_check_hand=>refine' Qh.bM ?a ?l ?c ?k; (case a=>k_is); (case l=>k_is); (case c=>k_is); (case k=>k_is)
  case d__law_cell=>refine' Qh.bM ?a ?l ?c ?k; (case a=>k_is); (case l=>k_is); (case c=>k_is); (case k=>k_is)
  case d__law_seed=>refine' Qh.bM ?a ?l ?c ?k; (case a=>k_is); (case l=>k_is); (case c=>k_is); (case k=>k_is)
  case d__law_pick=>refine' Qh.bM ?a ?l ?c ?k; (case a=>k_is); (case l=>k_is); (case c=>k_is); (case k=>k_is)
  case d_check_settings=>refine' Qh.bM ?a ?l ?c ?k; (case a=>k_is); (case l=>k_is); (case c=>k_is); (case k=>k_is)
  case d_rows_of=>refine' Qh.bM ?a ?l ?c ?k; (case a=>k_is); (case l=>k_is); (case c=>k_is); (case k=>k_is)
  case d_book_of=>refine' Qh.bM ?a ?l ?c ?k; (case a=>k_is); (case l=>k_is); (case c=>k_is); (case k=>k_is)
  case d__law_queue=>refine' Qh.bM ?a ?l ?c ?k; (case a=>k_is); (case l=>k_is); (case c=>k_is); (case k=>k_is)
  (case b_Disk=>k_is)
  (case pg_Disk=>k_is)
  (case hd_Disk=>k_is)
  (case po_Disk=>k_is)
  (case sa_Disk=>k_is)
  (case mk_Disk=>k_is)
  (case kc_Disk=>k_is)
  (case n_Disk_files=>k_is)
  (case n_Disk_steps_done=>k_is)
  (case n_Disk_steps_ahead=>k_is)
  case e_Disk___init__=>refine' Qh.aR ?a ?i ?l ?c ?k; (case a=>k_is); (case i=>k_is); (case l=>k_is); (case c=>k_is); (case k=>k_is)
  case e_Disk_names=>refine' Qh.aR ?a ?i ?l ?c ?k; (case a=>k_is); (case i=>k_is); (case l=>k_is); (case c=>k_is); (case k=>k_is)
  case e_Disk_check_file=>refine' Qh.aR ?a ?i ?l ?c ?k; (case a=>k_is); (case i=>k_is); (case l=>k_is); (case c=>k_is); (case k=>k_is)
  case e_Disk_size=>refine' Qh.aR ?a ?i ?l ?c ?k; (case a=>k_is); (case i=>k_is); (case l=>k_is); (case c=>k_is); (case k=>k_is)
  case e_Disk_read=>refine' Qh.aR ?a ?i ?l ?c ?k; (case a=>k_is); (case i=>k_is); (case l=>k_is); (case c=>k_is); (case k=>k_is)
  case e_Disk_count_step=>refine' Qh.aR ?a ?i ?l ?c ?k; (case a=>k_is); (case i=>k_is); (case l=>k_is); (case c=>k_is); (case k=>k_is)
  case e_Disk_make=>refine' Qh.aR ?a ?i ?l ?c ?k; (case a=>k_is); (case i=>k_is); (case l=>k_is); (case c=>k_is); (case k=>k_is)
  case e_Disk_drop=>refine' Qh.aR ?a ?i ?l ?c ?k; (case a=>k_is); (case i=>k_is); (case l=>k_is); (case c=>k_is); (case k=>k_is)
  case e_Disk_cut=>refine' Qh.aR ?a ?i ?l ?c ?k; (case a=>k_is); (case i=>k_is); (case l=>k_is); (case c=>k_is); (case k=>k_is)
  case e_Disk_add=>refine' Qh.aR ?a ?i ?l ?c ?k; (case a=>k_is); (case i=>k_is); (case l=>k_is); (case c=>k_is); (case k=>k_is)
  (case b_Queue=>k_is)
  (case pg_Queue=>k_is)
  (case hd_Queue=>k_is)
  (case po_Queue=>k_is)
  (case sa_Queue=>k_is)
  (case mk_Queue=>k_is)
  (case kc_Queue=>k_is)
  (case n_Queue_disk=>k_is)
  (case n_Queue_most=>k_is)
  (case n_Queue_hold=>k_is)
  (case n_Queue_tries=>k_is)
  (case n_Queue_book=>k_is)
  (case n_Queue_first=>k_is)
  (case n_Queue_last=>k_is)
  (case n_Queue_writing=>k_is)
  (case n_Queue_holders=>k_is)
  (case n_Queue_now=>k_is)
  case e_Queue_sizes=>refine' Qh.aR ?a ?i ?l ?c ?k; (case a=>k_is); (case i=>k_is); (case l=>k_is); (case c=>k_is); (case k=>k_is)
  case e_Queue_letters=>refine' Qh.aR ?a ?i ?l ?c ?k; (case a=>k_is); (case i=>k_is); (case l=>k_is); (case c=>k_is); (case k=>k_is)
  case e_Queue_coming=>refine' Qh.aR ?a ?i ?l ?c ?k; (case a=>k_is); (case i=>k_is); (case l=>k_is); (case c=>k_is); (case k=>k_is)
  case e_Queue_is_last_full=>refine' Qh.aR ?a ?i ?l ?c ?k; (case a=>k_is); (case i=>k_is); (case l=>k_is); (case c=>k_is); (case k=>k_is)
  case e_Queue_begin_segment=>refine' Qh.aR ?a ?i ?l ?c ?k; (case a=>k_is); (case i=>k_is); (case l=>k_is); (case c=>k_is); (case k=>k_is)
  case e_Queue_write=>refine' Qh.aR ?a ?i ?l ?c ?k; (case a=>k_is); (case i=>k_is); (case l=>k_is); (case c=>k_is); (case k=>k_is)
  case e_Queue_put=>refine' Qh.aR ?a ?i ?l ?c ?k; (case a=>k_is); (case i=>k_is); (case l=>k_is); (case c=>k_is); (case k=>k_is)
  case e_Queue_free_letters=>refine' Qh.aR ?a ?i ?l ?c ?k; (case a=>k_is); (case i=>k_is); (case l=>k_is); (case c=>k_is); (case k=>k_is)
  case e_Queue_ready=>refine' Qh.aR ?a ?i ?l ?c ?k; (case a=>k_is); (case i=>k_is); (case l=>k_is); (case c=>k_is); (case k=>k_is)
  case e_Queue_take=>refine' Qh.aR ?a ?i ?l ?c ?k; (case a=>k_is); (case i=>k_is); (case l=>k_is); (case c=>k_is); (case k=>k_is)
  case e_Queue_check_held=>refine' Qh.aR ?a ?i ?l ?c ?k; (case a=>k_is); (case i=>k_is); (case l=>k_is); (case c=>k_is); (case k=>k_is)
  case e_Queue_done=>refine' Qh.aR ?a ?i ?l ?c ?k; (case a=>k_is); (case i=>k_is); (case l=>k_is); (case c=>k_is); (case k=>k_is)
  case e_Queue_drop_first=>refine' Qh.aR ?a ?i ?l ?c ?k; (case a=>k_is); (case i=>k_is); (case l=>k_is); (case c=>k_is); (case k=>k_is)
  case e_Queue_sweep=>refine' Qh.aR ?a ?i ?l ?c ?k; (case a=>k_is); (case i=>k_is); (case l=>k_is); (case c=>k_is); (case k=>k_is)
  case e_Queue___init__=>refine' Qh.aR ?a ?i ?l ?c ?k; (case a=>k_is); (case i=>k_is); (case l=>k_is); (case c=>k_is); (case k=>k_is)
  (case b_Book=>k_is)
  (case pg_Book=>k_is)
  (case hd_Book=>k_is)
  (case po_Book=>k_is)
  (case sa_Book=>k_is)
  (case mk_Book=>k_is)
  (case kc_Book=>k_is)
  (case n_Book_entries=>k_is)
  (case n_Book_upcoming=>k_is)
  (case n_Book_parts=>k_is)
  case e_Book_letter=>refine' Qh.aR ?a ?i ?l ?c ?k; (case a=>k_is); (case i=>k_is); (case l=>k_is); (case c=>k_is); (case k=>k_is)
  case e_Book_letters=>refine' Qh.aR ?a ?i ?l ?c ?k; (case a=>k_is); (case i=>k_is); (case l=>k_is); (case c=>k_is); (case k=>k_is)
  case e_Book_enter_put=>refine' Qh.aR ?a ?i ?l ?c ?k; (case a=>k_is); (case i=>k_is); (case l=>k_is); (case c=>k_is); (case k=>k_is)
  case e_Book_enter_deal=>refine' Qh.aR ?a ?i ?l ?c ?k; (case a=>k_is); (case i=>k_is); (case l=>k_is); (case c=>k_is); (case k=>k_is)
  case e_Book_change_entry=>refine' Qh.aR ?a ?i ?l ?c ?k; (case a=>k_is); (case i=>k_is); (case l=>k_is); (case c=>k_is); (case k=>k_is)
  case e_Book_enter=>refine' Qh.aR ?a ?i ?l ?c ?k; (case a=>k_is); (case i=>k_is); (case l=>k_is); (case c=>k_is); (case k=>k_is)
  case e_Book_numbers_in=>refine' Qh.aR ?a ?i ?l ?c ?k; (case a=>k_is); (case i=>k_is); (case l=>k_is); (case c=>k_is); (case k=>k_is)
  case e_Book___init__=>refine' Qh.aR ?a ?i ?l ?c ?k; (case a=>k_is); (case i=>k_is); (case l=>k_is); (case c=>k_is); (case k=>k_is)
  (case aL=>k_is)
  (case lL=>k_is)
  (case cL=>k_is)
  (case kL=>k_is)
  (case z_len=>k_is)
  (case z_isinstance=>k_is)
  (case z_all=>k_is)
  (case z_sum=>k_is)
  (case z_tuple=>k_is)
  (case z_int=>k_is)
  (case z_bool=>k_is)
  (case z_str=>k_is)
  (case z_range=>k_is)
  (case z_enumerate=>k_is)
  (case z_list=>k_is)
  (case z_max=>k_is)
  (case z_min=>k_is)
  (case z_sorted=>k_is)
  (case v_HIGHEST_BYTE=>k_is)
  (case v_HIGHEST_NUMBER=>k_is)
  (case v_LONGEST_BODY=>k_is)
  (case v_HIGHEST_TIMES=>k_is)
  (case v_LARGEST_DEAL=>k_is)
  (case v_CHECKS_SIZE=>k_is)
  (case v_HEAD_SIZE=>k_is)
  (case v_LARGEST_MOST=>k_is)
  (case v_LONGEST_HOLD=>k_is)
  (case v_HIGHEST_TRIES=>k_is)
  (case v_LONGEST_HAND=>k_is)
  (case v_LONGEST_NAME=>k_is)
  (case v_MOST_STEPS=>k_is)
  (case v_NAME_SIGNS=>k_is)
  (case v_HAND_SIGNS=>k_is)
  (case aK=>k_is)
  (case qK=>exact rfl)
  (case a_BadName=>k_is)
  (case x_BadName=>exact rfl)
  (case a_Missing=>k_is)
  (case x_Missing=>exact rfl)
  (case a_There=>k_is)
  (case x_There=>exact rfl)
  (case a_Stopped=>k_is)
  (case x_Stopped=>exact rfl)
  (case a_Broken=>k_is)
  (case x_Broken=>exact rfl)
  (case a_BadRow=>k_is)
  (case x_BadRow=>exact rfl)
  (case a_BadSettings=>k_is)
  (case x_BadSettings=>exact rfl)
  (case a_BadBody=>k_is)
  (case x_BadBody=>exact rfl)
  (case a_BadHand=>k_is)
  (case x_BadHand=>exact rfl)
  (case a_BadNumber=>k_is)
  (case x_BadNumber=>exact rfl)
  (case a_NotHeld=>k_is)
  (case x_NotHeld=>exact rfl)
end

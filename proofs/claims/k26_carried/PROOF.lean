import PyProof.Rows.All
import Wide.All
import OpenK.AllK
import Wide.FinOn
import Lean
import PyProof.EqAt
import PyProof.EqKinds
import PyProof.TupleCall
import PySem.Challenge.RW_queuehold_k26_carried
open List (length_map mem_singleton map_cons getElem?_map mem_append mem_map map_append mem_cons length_cons length_append find?_cons getElem?_eq_getElem mem_append_right map_map mem_filter size_toArray append_nil getD_eq_getElem?_getD mem_of_getElem? append_assoc all_eq_true mem_cons_of_mem map_nil mem_range mem_cons_self map_congr_left filter_append find?_eq_none mem_append_left length_filter_le take_length pairwise_singleton filter_cons_of_neg length_take length_drop filter_cons ext_getElem? any_cons flatten_cons length_range getElem?_eq_none filter_cons_of_pos take_succ nil_append range_succ pairwise_append nodup_cons getElem?_append_right replicate_succ range_succ_eq_map drop_eq_getElem_cons drop_of_length_le take_append_drop mem_map_of_mem filterMap_cons getElem?_append_left all_cons length_eq_zero_iff all_map)
open Nat (le_refl le_trans ne_of_lt zero_le lt_trans lt_of_lt_of_le le_of_lt le_of_ble_eq_true lt_succ_of_lt le_succ lt_succ_self min_eq_left lt_irrefl ne_of_gt zero_add)
open PySem.W (nsIn mg_of mg_none_of findIn keepIn fnOf kia_one emptyDict instObj codeIn plainGet hideAll hasDictIn hideAll_get kdu_collect kdl_dict of_hideAll plainGet_of callWith_K kitx_list kitx_dict methodCall_KW callWith_K0 ked_eqvAll)
open PySem.Heap (lt_size get?_push_of_some get?_push_size size_push)
open Bool (and_eq_true)
open Array (toList_push length_toList getElem?_toList)
open Int (toNat_natCast)
set_option maxHeartbeats 4000000
noncomputable section
set_option Elab.async false
set_option linter.all false
set_option maxRecDepth 100000
theorem ucs {P:List PySem.Value->Prop} {n:Nat} (h:∀ a us,us.length=n->P (a::us)):∀ us,us.length=n+1->P us:=fun us hl=>by
 cases us with
 | nil=>cases hl
 | cons a r=>exact h a r (Nat.succ.inj hl)
theorem usn {P:List PySem.Value->Prop} (h:P []):∀ us,us.length=0->P us:=fun us hl=>by
 cases us with
 | nil=>exact h
 | cons a r=>cases hl
theorem uS1 {P:List PySem.Value->Prop} (h:∀ a,P [a]):∀ us,us.length=1->P us:=ucs fun a=>usn (h a)
theorem uS2 {P:List PySem.Value->Prop} (h:∀ a b,P [a,b]):∀ us,us.length=2->P us:=ucs fun a=>ucs fun b=>usn (h a b)
theorem uS3 {P:List PySem.Value->Prop} (h:∀ a b c,P [a,b,c]):∀ us,us.length=3->P us:=ucs fun a=>ucs fun b=>ucs fun c=>usn (h a b c)
theorem uS4 {P:List PySem.Value->Prop} (h:∀ a b c d,P [a,b,c,d]):∀ us,us.length=4->P us:=ucs fun a=>ucs fun b=>ucs fun c=>ucs fun d=>usn (h a b c d)
theorem uS5 {P:List PySem.Value->Prop} (h:∀ a b c d e,P [a,b,c,d,e]):∀ us,us.length=5->P us:=ucs fun a=>ucs fun b=>ucs fun c=>ucs fun d=>ucs fun e=>usn (h a b c d e)
section
namespace L2
open PySem PySem.Spec PyProof.Rows
noncomputable abbrev Key:=Sum Int Str
noncomputable def wN:Key->Value->Bool
 | .inl k,v=>Value.isInt k v
 | .inr x,v=>Value.isStrOf x v
noncomputable def keyH (w:World):Key->Int
 | .inl k=>hashInt k
 | .inr x=>hashStr w x
theorem cM:∀ {k:Key} {v:Value},wN k v=true->(∃ i t,k=Sum.inl i/\v=Value.int i t)\/(∃ x t,k=Sum.inr x/\v=Value.str x t)
 | .inl i,v,h=>by
  obtain⟨t,e⟩:=Value.isInt_shape (k:=i) (v:=v) h
  exact .inl ⟨i,t,rfl,e⟩
 | .inr x,v,h=>by
  obtain⟨t,e⟩:=Value.isStrOf_shape (x:=x) (v:=v) h
  exact .inr ⟨x,t,rfl,e⟩
theorem DR (i:Int) (t:Tok):wN (.inl i) (.int i t)=true:=by simp [wN,Value.isInt]
theorem DQ (x:Str) (t:Tok):wN (.inr x) (.str x t)=true:=by simp [wN,Value.isStrOf]
theorem Hd (a b:Int):decide ((Sum.inl a:Key)=Sum.inl b)=(a == b):=by
 by_cases e:a=b
 ·subst e; simp
 ·have h:¬ (Sum.inl a:Key)=Sum.inl b:=fun q=>e (Sum.inl.inj q)
  rw[decide_eq_false h]
  exact(beq_eq_false_iff_ne.mpr e).symm
theorem HY (a b:Str):decide ((Sum.inr a:Key)=Sum.inr b)=decide (a=b):=by
 by_cases e:a=b
 ·subst e; simp
 ·have h:¬ (Sum.inr a:Key)=Sum.inr b:=fun q=>e (Sum.inr.inj q)
  rw[decide_eq_false h,decide_eq_false e]
theorem Ha (a:Int) (b:Str):decide ((Sum.inl a:Key)=Sum.inr b)=false:=decide_eq_false (fun q=>nomatch q)
theorem HZ (a:Str) (b:Int):decide ((Sum.inr a:Key)=Sum.inl b)=false:=decide_eq_false (fun q=>nomatch q)
noncomputable def cE (prog:Program) (w:World):PySem.KeyKind prog w Key where
 is:=wN
 hash:=keyH w
 inj:=fun v a b ha hb=>by
  rcases cM ha with ⟨i,t,rfl,rfl⟩ | ⟨x,t,rfl,rfl⟩
  ·rcases cM hb with ⟨j,u,rfl,e⟩ | ⟨y,u,rfl,e⟩
   ·injection e with e1 _; rw[e1]
   ·exact nomatch e
  ·rcases cM hb with ⟨j,u,rfl,e⟩ | ⟨y,u,rfl,e⟩
   ·exact nomatch e
   ·injection e with e1 _; rw[e1]
 byValue:=fun k v h=>by
  rcases cM h with ⟨i,t,rfl,rfl⟩ | ⟨x,t,rfl,rfl⟩ <;> rfl
 pyHash:=fun hv h=>by
  rcases cM hv with ⟨i,t,rfl,rfl⟩ | ⟨x,t,rfl,rfl⟩
  ·exact wpAny_pyHash_int h
  ·exact wpAny_pyHash_str h
 eqBool:=fun hu hv h=>by
  rcases cM hu with ⟨i,t,rfl,rfl⟩ | ⟨x,t,rfl,rfl⟩
  ·rcases cM hv with ⟨j,u,rfl,rfl⟩ | ⟨y,u,rfl,rfl⟩
   ·rw[Hd]at h; exact wpAny_eqBool_int h
   ·rw[Ha]at h; exact SeqAt.EqAt.int_str i t y u _ _ _ _ h
  ·rcases cM hv with ⟨j,u,rfl,rfl⟩ | ⟨y,u,rfl,rfl⟩
   ·rw[HZ]at h; exact SeqAt.EqAt.str_int x t j u _ _ _ _ h
   ·rw[HY]at h; exact wpAny_eqBool_str h
 «strs»:=fun k x t v h=>by
  rcases cM h with ⟨i,u,rfl,e⟩ | ⟨y,u,rfl,e⟩
  ·exact nomatch e
  ·injection e with e1 _
   subst e1
   cases v <;> rfl
theorem AJ (prog:Program) (w:World) (i:Int) (t:Tok):(cE prog w).is (.inl i) (.int i t)=true:=DR i t
theorem AI (prog:Program) (w:World) (x:Str) (t:Tok):(cE prog w).is (.inr x) (.str x t)=true:=DQ x t
inductive V where
 | non | bl (b:Bool) | int (i:Int) | str (x:Str) | byt (b:Array UInt8) | flt (b:UInt64) | ref (a:Addr) | ty (n:String)
 deriving DecidableEq
def bW:V->Value->Prop
 | .non,u=>u=Value.none
 | .bl b,u=>u=Value.bool b
 | .int i,u=>∃ t,u=Value.int i t
 | .str x,u=>∃ t,u=Value.str x t
 | .byt b,u=>∃ t,u=Value.bytes b t
 | .flt b,u=>∃ t,u=Value.float b t
 | .ref a,u=>u=Value.ref a
 | .ty n,u=>u=Value.type n
noncomputable abbrev bQ:List V->List Value->Prop:=Paired bW
theorem bQ.length {xs:List V} {us:List Value} (r:bQ xs us):xs.length=us.length:=Paired.length r
theorem bQ.get:∀ {xs:List V} {us:List Value} {i:Nat} {x:V},bQ xs us->xs[i]? = some x->∃ u,us[i]? = some u/\bW x u
 | _,_,_,_,.nil,e=>by simp at e
 | _,_,0,_,.cons r _,e=>by simp at e; subst e; exact⟨_,rfl,r⟩
 | _,_,i+1,x,.cons _ t,e=>by
  obtain⟨u,h1,h2⟩:=bQ.get (i:=i) (x:=x) t (by simpa using e)
  exact⟨u,by simpa using h1,h2⟩
theorem bQ.append:∀ {xs ys:List V} {us ws:List Value},bQ xs us->bQ ys ws->bQ (xs++ys) (us++ws)
 | _,_,_,_,.nil,s=>s
 | _,_,_,_,.cons r t,s=>.cons r (bQ.append t s)
theorem bQ.take:∀ {xs:List V} {us:List Value} (n:Nat),bQ xs us->bQ (xs.take n) (us.take n)
 | _,_,0,_=>.nil
 | _,_,_+1,.nil=>.nil
 | _,_,n+1,.cons r t=>.cons r (bQ.take n t)
theorem bQ.drop:∀ {xs:List V} {us:List Value} (n:Nat),bQ xs us->bQ (xs.drop n) (us.drop n)
 | _,_,0,r=>r
 | _,_,_+1,.nil=>.nil
 | _,_,n+1,.cons _ t=>bQ.drop n t
def mI:Option V->Option Value->Prop
 | some v,some u=>bW v u
 | none,none=>True
 | _,_=>False
def KV {κ : Type}:List (κ × V)->List (κ × Value)->Prop:=Paired fun(p:κ × V) (q:κ × Value)=>p.1=q.1/\bW p.2 q.2
noncomputable def kV:Key->V
 | .inl i=>.int i
 | .inr x=>.str x
inductive HO where
  | lst (xs:List V)
  | tup (xs:List V)
  | dK (kvs:List (Key × V)) | dT (kvs:List (List Key × V))
  | set (S:Int->Bool) (n:Nat)
  | ins (C dx:Addr) (fs:List (Str × V))
  | own (x:Addr)
  | xd (fs:List (Str × V))
  | met (f x:Addr)
  | rng (lo hi:Int)
  | frz (o:Obj) (u:HO)
  | tbl (ps:Array Value)
  | ext (φ : Heap->Prop)
noncomputable abbrev Hp:=Addr->Option HO
noncomputable def upd (H:Hp) (a:Addr) (o:HO):Hp:=fun b=>if b=a then some o else H b
theorem aC {H:Hp} {a:Addr} {o:HO}:upd H a o a=some o:=by unfold upd; rw[if_pos rfl]
theorem aF {H:Hp} {a b:Addr} {o:HO} (h:b≠a):upd H a o b=H b:=by unfold upd; rw[if_neg h]
theorem ne_of {H:Hp} {a b:Addr} {o u:HO} (h:H a=some o) (h':H b=some u) (d:o≠u):a≠b:=by
 intro e; subst e; rw[h]at h'; exact d (Option.some.inj h')
theorem bC {H:Hp} {a b:Addr} {o:HO} (h:H a=some o) (h':H b=none):a≠b:=by
 intro e; subst e; rw[h]at h'; cases h'
section
variable (P:Program) (w:World)
def dC (H:Hp) (h:Heap) (a:Addr):HO->Prop
 | .lst xs=>xs.length<=sizeLine/\∃ (its:List Value) (n:Nat),bQ xs its/\h.get? a=some { cls:=.type "list",data:=.seq its.toArray n }
 | .tup xs=>xs.length<=sizeLine/\∃ its:List Value,bQ xs its/\IsTup h a its.toArray
 | .dK kvs=>kvs.length<=sizeLine/\(a == sysModules)=false/\∃ vs,KV kvs vs/\h.DictOf (cE P w) a vs
 | .dT kvs=>kvs.length<=sizeLine/\(a == sysModules)=false/\∃ xs:List (List Key × Addr × Value),
   Paired (fun(p:List Key × V) (q:List Key × Addr × Value)=>p.1=q.1/\H q.2.1=some (.tup (p.1.map kV))/\bW p.2 q.2.2) kvs xs/\
   ∃ o es ep,h.get? a=some o/\o.ExactDict/\o.data = .dict es ep/\es.toList=xs.map (entryOfKey (tupleKind (cE P w)))/\(xs.map (·.1)).Nodup
 | .set S n=>h.SetOf (intKind P w) a S n
 | .ins C dx fs=>H dx=some (.own a)/\fs.length<=1000/\dx≠a/\h.get? a=some (instObj C dx)/\
   ∃ mA,h.Ns1 dx mA/\(∀ f,mI (fs.lookup f) (mA f))/\PySem.Within mA (fs.map (·.1))
 | .own _=>∃ o,h.get? a=some o
 | .xd fs=>∃ mA,h.Ns1 a mA/\∀ f,mI (fs.lookup f) (mA f)
 | .rng lo hi=>∃ t u v,h.get? a=some { cls:=.type "range",data:=.fields #[.int lo t,.int hi u,.int 1 v] }
 | .frz o u=>h.get? a=some o/\dC H h a u
 | .tbl ps=>h.get? a=some { cls:=.none,data:=.fields ps }
 | .met f x=>h.get? a=some (PySem.W.methodObj (.ref f) (.ref x))
 | .ext φ=>φ h/\(∃ o,h.get? a=some o)/\∀ h1 h2:Heap,φ h1->(∀ o,h1.get? a=some o->h2.get? a=some o)->φ h2
def HOk (H:Hp) (h:Heap):Prop:=∀ a o,H a=some o->dC P w H h a o
end
section
variable {P:Program} {w:World} {H H':Hp} {h h':Heap} {a:Addr} {o:HO}
theorem dC.lt (x:dC P w H h a o):a<h.objs.size:=by
 cases o with
 | lst xs=>obtain⟨_,_,_,_,e⟩:=x; exact lt_size e
 | tup xs=>obtain⟨_,_,_,p⟩:=x; exact p.lt
 | dK kvs=>obtain⟨_,_,_,_,o,_,_,e,_⟩:=x; exact lt_size e
 | dT kvs=>obtain⟨_,_,_,_,o,_,_,e,_⟩:=x; exact lt_size e
 | set S n=>obtain⟨o,_,_,_,e,_⟩:=x; exact lt_size e
 | ins C dx fs=>obtain⟨_,_,_,e,_⟩:=x; exact lt_size e
 | own y=>obtain⟨_,e⟩:=x; exact lt_size e
 | xd fs=>obtain⟨_,⟨_,_,_,e,_⟩,_⟩:=x; exact lt_size e
 | rng lo hi=>obtain⟨_,_,_,e⟩:=x; exact lt_size e
 | frz ob u=>obtain⟨e,_⟩:=x; exact lt_size e
 | tbl ps=>exact lt_size (show h.get? a=some _ from x)
 | met f y=>exact lt_size (show h.get? a=some _ from x)
 | ext φ=>obtain⟨_,⟨_,e⟩,_⟩:=x; exact lt_size e
theorem Paired.mapP {α β : Type} {F G:α->β->Prop}:∀ {l₁ : List α} {l₂ : List β},Paired F l₁ l₂->(∀ a b,F a b->G a b)->Paired G l₁ l₂
 | _,_,.nil,_=>.nil
 | _,_,.cons r t,f=>.cons (f _ _ r) (Paired.mapP t f)
theorem dC.stay (x:dC P w H h a o) (k:∀ b u,(b=a\/H b=some (.own a))->h.get? b=some u->h'.get? b=some u)
  (ho:∀ b,H b=some (.own a)->H' b=some (.own a)) (ht:∀ b xs,H b=some (.tup xs)->H' b=some (.tup xs)):dC P w H' h' a o:=by
 induction o with
 | lst xs=>obtain⟨z,its,n,r,e⟩:=x; exact⟨z,its,n,r,k _ _ (.inl rfl) e⟩
 | tup xs=>obtain⟨z,its,r,ob,e,c⟩:=x; exact⟨z,its,r,ob,k _ _ (.inl rfl) e,c⟩
 | dK kvs=>obtain⟨z,y,vs,r,ob,es,ep,e,c⟩:=x; exact⟨z,y,vs,r,ob,es,ep,k _ _ (.inl rfl) e,c⟩
 | dT kvs=>
  obtain⟨z,y,xs,r,ob,es,ep,e,c⟩:=x
  exact⟨z,y,xs,Paired.mapP r fun p q z=>⟨z.1,ht _ _ z.2.1,z.2.2⟩,ob,es,ep,k _ _ (.inl rfl) e,c⟩
 | set S n=>obtain⟨ob,es,ep,t,e,c⟩:=x; exact⟨ob,es,ep,t,k _ _ (.inl rfl) e,c⟩
 | ins C dx fs=>
  obtain⟨d,z,ne,e,mA,⟨od,es,ep,e2,c⟩,r⟩:=x
  exact⟨ho _ d,z,ne,k _ _ (.inl rfl) e,mA,⟨od,es,ep,k _ _ (.inr d) e2,c⟩,r⟩
 | own y=>obtain⟨ob,e⟩:=x; exact⟨ob,k _ _ (.inl rfl) e⟩
 | xd fs=>obtain⟨mA,⟨od,es,ep,e,c⟩,r⟩:=x; exact⟨mA,⟨od,es,ep,k _ _ (.inl rfl) e,c⟩,r⟩
 | rng lo hi=>obtain⟨t,u,v,e⟩:=x; exact⟨t,u,v,k _ _ (.inl rfl) e⟩
 | frz ob u ih=>obtain⟨e,q⟩:=x; exact⟨k _ _ (.inl rfl) e,ih q⟩
 | tbl ps=>
  have e:h.get? a=some { cls:=.none,data:=.fields ps }:=x
  show h'.get? a=some { cls:=.none,data:=.fields ps }
  exact k a _ (.inl rfl) e
 | met f y=>
  have e:h.get? a=some (PySem.W.methodObj (.ref f) (.ref y)):=x
  show h'.get? a=some (PySem.W.methodObj (.ref f) (.ref y))
  exact k a _ (.inl rfl) e
 | ext φ=>obtain⟨p,⟨o,e⟩,st⟩:=x; exact⟨st _ _ p fun o q=>k _ _ (.inl rfl) q,⟨o,k _ _ (.inl rfl) e⟩,st⟩
theorem HOk.lt (x:HOk P w H h) (e:H a=some o):a<h.objs.size:=(x a o e).lt
theorem HOk.fresh (x:HOk P w H h) (e:h.objs.size<=a):H a=none:=by
 cases q:H a with
 | none=>rfl
 | some u=>exact absurd (lt_of_lt_of_le (x.lt q) e) (lt_irrefl _)
theorem HOk.kept (x:HOk P w H h) (k:∀ b u,h.get? b=some u->h'.get? b=some u):HOk P w H h':=fun a o e=>
 (x a o e).stay (fun b u _ q=>k b u q) (fun _ q=>q) fun _ _ q=>q
theorem HOk.laid (x:HOk P w H h) (k:∀ b u,h.get? b=some u->h'.get? b=some u) (hp:h.objs.size<=a) (new:dC P w (upd H a o) h' a o):HOk P w (upd H a o) h':=fun b u e=>by
 have hn:=x.fresh hp
 by_cases hb:b=a
 ·subst hb; rw[aC]at e; cases e; exact new
 ·rw[aF hb]at e
  exact(x b u e).stay (fun c v _ q=>k c v q) (fun c q=>by rw[aF (bC q hn)]; exact q) fun c xs q=>by rw[aF (bC q hn)]; exact q
end
def Rd (H:Hp) (a:Addr) (u:HO):Prop:=H a=some u\/∃ o,H a=some (.frz o u)
theorem Rd.ok {P:Program} {w:World} {H:Hp} {h:Heap} {a:Addr} {u:HO} (r:Rd H a u) (x:HOk P w H h):dC P w H h a u:=by
 rcases r with r | ⟨o,r⟩
 ·exact x a u r
 ·obtain⟨_,q⟩:=x a _ r
  exact q
def Mut:Option HO->Prop
 | some (.lst _)=>True
 | some (.dK _)=>True
 | some (.dT _)=>True
 | some (.set _ _)=>True
 | some (.ins _ _ _)=>True
 | some (.ext _)=>True
 | _=>False
section
variable {P:Program} {w:World} {H:Hp} {h h':Heap} {x e:Addr} {o':HO}
theorem HOk.write (ok:HOk P w H h) (mu:Mut (H x)) (he:e=x\/H e=some (.own x)) (k:∀ b u,b≠e->h.get? b=some u->h'.get? b=some u) (heo:∃ u,h'.get? e=some u)
  (new:dC P w (upd H x o') h' x o'):HOk P w (upd H x o') h':=fun b u q=>by
 have nown:∀ c y,H c=some (.own y)->c≠x:=fun c y r z=>by subst z; rw[r]at mu; exact mu
 have ntup:∀ c xs,H c=some (.tup xs)->c≠x:=fun c xs r z=>by subst z; rw[r]at mu; exact mu
 by_cases hb:b=x
 ·subst hb; rw[aC]at q; cases q; exact new
 ·rw[aF hb]at q
  by_cases hbe:b=e
  ·have q':H b=some (.own x):=by
    rcases he with z | z
    ·exact absurd (hbe.trans z) hb
    ·rw[hbe]; exact z
   rw[q]at q'; cases q'
   obtain⟨v,hv⟩:=heo
   exact⟨v,by rw[hbe]; exact hv⟩
  ·refine(ok b u q).stay (fun c v hc r=>k c v ?_ r) (fun c r=>by rw[aF (nown c b r)]; exact r) fun c xs r=>by rw[aF (ntup c xs r)]; exact r
   rcases hc with rfl | hc
   ·exact hbe
   ·rintro rfl
    rcases he with z | z
    ·exact nown c b hc z
    ·rw[hc]at z; cases z; exact hb rfl
end
structure Un (fs ex:List Addr) (H H':Hp) (h h':Heap):Prop where
 keep:∀ b o,h.get? b=some o->H b=none->b ∉ fs->b ∉ ex->h'.get? b=some o
 slot:∀ b o,h.get? b=some o->H b=none->b∈fs->b ∉ ex->∃ sl,h'.get? b=some { o with slots:=sl }
 free:∀ b o,h.get? b=some o->H b=none->b ∉ ex->H' b=none
 there:∀ b o,h.get? b=some o->b ∉ ex->∃ o',h'.get? b=some o'
 tups:∀ b xs,H b=some (.tup xs)->H' b=some (.tup xs)
 frzs:∀ b o u,H b=some (.frz o u)->H' b=some (.frz o u)
 tbls:∀ b ps,H b=some (.tbl ps)->∃ more,H' b=some (.tbl (ps++more))
section
variable {fs fs' ex ex':List Addr} {H H1 H2:Hp} {h h1 h2 h':Heap} {a x e:Addr} {o:HO}
theorem Un.any (u:Un fs ex H H1 h h1) {b:Addr} {ob:Obj} (q:h.get? b=some ob) (n:H b=none) (hx:b ∉ ex):∃ sl,h1.get? b=some { ob with slots:=sl }:=by
 by_cases hb:b∈fs
 ·exact u.slot b ob q n hb hx
 ·exact⟨ob.slots,u.keep b ob q n hb hx⟩
theorem Un.kept (k:∀ b u,h.get? b=some u->h'.get? b=some u):Un fs ex H H h h':=
 ⟨fun b ob q _ _ _=>k b ob q,fun b ob q _ _ _=>⟨ob.slots,k b ob q⟩,fun _ _ _ n _=>n,fun b ob q _=>⟨ob,k b ob q⟩,fun _ _ q=>q,fun _ _ _ q=>q,fun _ ps q=>⟨#[],by rw[q]; simp⟩⟩
theorem Un.refl:Un fs ex H H h h:=Un.kept fun _ _ q=>q
theorem Un.laid (k:∀ b u,h.get? b=some u->h'.get? b=some u) (hp:h.objs.size<=a) (hn:H a=none):Un fs ex H (upd H a o) h h' where
 keep:=fun b u q _ _ _=>k b u q
 slot:=fun b u q _ _ _=>⟨u.slots,k b u q⟩
 free:=fun b u q n _=>by rw[aF (ne_of_lt (lt_of_lt_of_le (lt_size q) hp))]; exact n
 there:=fun b u q _=>⟨u,k b u q⟩
 tups:=fun b xs q=>by rw[aF (bC q hn)]; exact q
 frzs:=fun b u xs q=>by rw[aF (bC q hn)]; exact q
 tbls:=fun b ps q=>⟨#[],by rw[aF (bC q hn),q]; simp⟩
theorem Un.write (mu:Mut (H x)) (he:e=x\/H e=some (.own x)) (k:∀ b u,b≠e->h.get? b=some u->h'.get? b=some u) (heo:∃ u,h'.get? e=some u):Un fs ex H (upd H x o) h h':=by
 have hx:∀ b,H b=none->b≠x:=fun b n z=>by subst z; rw[n]at mu; exact mu
 have hb:∀ b,H b=none->b≠e:=fun b n z=>by
  subst z
  rcases he with r | r
  ·exact hx b n r
  ·rw[n]at r; cases r
 have hm:∀ b u,H b=some u->¬ Mut (some u)->b≠x:=fun b u q nm z=>by subst z; rw[q]at mu; exact nm mu
 refine⟨fun b u q n _ _=>k b u (hb b n) q,fun b u q n _ _=>⟨u.slots,k b u (hb b n) q⟩,fun b u q n _=>by rw[aF (hx b n)]; exact n,fun b u q _=>?_,
  fun b xs q=>by rw[aF (hm b _ q fun z=>z)]; exact q,fun b u xs q=>by rw[aF (hm b _ q fun z=>z)]; exact q,fun b ps q=>⟨#[],by rw[aF (hm b _ q fun z=>z),q]; simp⟩⟩
 by_cases hbe:b=e
 ·subst hbe; exact heo
 ·exact⟨u,k b u hbe q⟩
end
noncomputable def trk (h:Heap) (H:Hp):List Addr:=(List.range h.objs.size).filter fun a=>(H a).isSome
noncomputable def yW (h:Heap) (H:Hp):Heap:=hideAll h (trk h H)
theorem DW (h:Heap) (H:Hp):(yW h H).objs.size=h.objs.size:=PySem.W.hideAll_size _ _
theorem FA {h:Heap} {H:Hp} {b:Addr} {o:Obj} (e:h.get? b=some o) (n:H b=none):(yW h H).get? b=some o:=
 hideAll_get _ e fun hm=>by
  have q:(H b).isSome=true:=(mem_filter.mp hm).2
  rw[n]at q; simp at q
theorem GK {h:Heap} {H:Hp} {b:Addr} {o:Obj} (e:(yW h H).get? b=some o):h.get? b=some o/\H b=none:=by
 have e':h.get? b=some o:=of_hideAll (trk h H) e
 refine⟨e',?_⟩
 cases q:H b with
 | none=>rfl
 | some x=>
  have hm:b∈trk h H:=mem_filter.mpr ⟨mem_range.mpr (lt_size e'),by simp [q]⟩
  have z:(yW h H).get? b=none:=PySem.W.hideAll_none (trk h H) hm
  rw[z]at e; cases e
noncomputable def Gj (g h:Heap) (L:Addr):List (Addr × Obj):=(List.range h.objs.size).filterMap fun a=>if a=L\/(g.get? a).isSome=true then none else (h.get? a).map fun o=>(a,o)
noncomputable def rest (g h:Heap) (L d:Addr):List (Addr × Obj):=(Gj g h L).filter fun p=>decide (p.1≠d)
structure Mod (K:PySem.W.Frag) (mg:Str->Option Value) (base:Heap):Prop where
 kin:K.In base
 glob:base.Ns mainGlobals mg
 blt:∃ mb,base.Ns builtinsNs mb/\∀ x:Str,x ≠ "__name__"->mb x=bootBuiltins x
 nolimit:base.NoLimit
structure Cx where
 prog:Program
 w:World
 K:PySem.W.Frag
 mg:Str->Option Value
 base:Heap
 A:Around
 N:List Str
 s₀ : Shared
 H₀ : Hp
 env:Env
 outer:List Env
 stack:List Env
 ex:List Addr
 fn:Str->Bool
 calm:Bool
 pn:List (Addr × Obj)
 xe:Value->Shared->Prop
noncomputable def frs (l:List Env):List Addr:=l.filterMap (·.frame)
noncomputable abbrev Cx.fs (X:Cx):List Addr:=frs X.outer
def Vis (sc:Scope) (x:Str):Prop:=sc.names.lookup x=some .local\/sc.names.lookup x=some .cell\/sc.names.lookup x=some .free
def Loc (sc:Scope) (x:Str):Prop:=sc.names.lookup x=some .local\/sc.names.lookup x=some .cell
def Look (env:Env) (h:Heap) (m:Str->Option Value) (x:Str) (u:Value):Prop:=
 (env.kindOf x=some .local/\m x=some u)\/((env.kindOf x=some .cell\/env.kindOf x=some .free)/\∃ c,env.cells.lookup x=some c/\h.IsCell c (some u))
structure Cx.Ok (X:Cx):Prop where
 mod:Mod X.K X.mg X.base
 kind:X.env.scope.kind = .function
 glob:X.env.globals=mainGlobals
 blt:X.env.builtins=builtinsNs
 above:X.s₀.heap.objs.size<=X.env.locals
 inj:∀ x y c,X.env.cells.lookup x=some c->X.env.cells.lookup y=some c->x=y
 has:∀ x,(X.env.kindOf x=some .cell\/X.env.kindOf x=some .free)->∃ c,X.env.cells.lookup x=some c
 cab:∀ x c,X.fn x=true->X.env.cells.lookup x=some c->X.s₀.heap.objs.size<=c
 hd:X.calm=true->X.A.handled=none
 frames:X.A.frames=some X.stack
 stk:X.stack=X.outer\/(X.stack=X.env::X.outer/\X.env.frame=some X.env.locals)
 exf:∀ b∈X.ex,b≠X.env.locals/\∀ x c,X.env.cells.lookup x=some c->c≠b
 bs:∀ b o,X.base.get? b=some o->X.s₀.heap.get? b=some o/\X.H₀ b=none
 bsz:X.base.objs.size<=X.s₀.heap.objs.size
 noex:∀ b o,X.base.get? b=some o->b ∉ X.ex
 exfs:∀ b∈X.ex,b ∉ X.fs
 funs:X.s₀.heap.FunFrames X.base X.outer
 frf:∀ b∈X.fs,X.H₀ b=none
structure Inv (X:Cx) (pins:List (Addr × Obj)) (σ : List (Option V)) (H:Hp) (s:Shared):Prop where
 ok:X.Ok
 os:s.os=X.s₀.os
 bare:AllBare s.gens
 base:Un X.fs X.ex X.H₀ H X.s₀.heap s.heap
 loc:∃ m,s.heap.Ns X.env.locals m/\∀ (i:Nat) (x:Str) (v:V),X.N[i]? = some x->σ[i]? = some (some v)->Vis X.env.scope x->∃ u,bW v u/\Look X.env s.heap m x u
 cell:∀ x c,X.env.cells.lookup x=some c->∃ v,s.heap.IsCell c v
 free:H X.env.locals=none
 freeC:∀ x c,X.env.cells.lookup x=some c->H c=none
 pin:∀ p∈X.pn++pins,s.heap.get? p.1=some p.2/\H p.1=none/\p.1≠X.env.locals/\p.1 ∉ X.fs/\∀ v,p.2.data ≠ .cell v
 hok:HOk X.prog X.w H s.heap
 len:σ.length=X.N.length
section
variable {X:Cx} {pins:List (Addr × Obj)} {σ : List (Option V)} {H H':Hp} {s:Shared} {h':Heap}
theorem Cx.Ok.nofr (ok:X.Ok) {b:Addr} {o:Obj} (e:X.base.get? b=some o):b ∉ X.fs:=fun hb=>by
 have:=(ok.funs.mem hb).1
 rw[e]at this; cases this
theorem Inv.bs (I:Inv X pins σ H s):∀ b o,X.base.get? b=some o->s.heap.get? b=some o/\H b=none:=fun b o e=>
 ⟨I.base.keep b o (I.ok.bs b o e).1 (I.ok.bs b o e).2 (I.ok.nofr e) (I.ok.noex b o e),I.base.free b o (I.ok.bs b o e).1 (I.ok.bs b o e).2 (I.ok.noex b o e)⟩
theorem Inv.bk (I:Inv X pins σ H s):∀ b o,X.base.get? b=some o->s.heap.get? b=some o:=fun b o e=>(I.bs b o e).1
theorem Inv.mod (I:Inv X pins σ H s):Mod X.K X.mg X.base:=I.ok.mod
theorem Inv.kIn (I:Inv X pins σ H s):X.K.In s.heap:=I.ok.mod.kin.keeps I.bk
theorem Inv.lt (I:Inv X pins σ H s):X.env.locals<s.heap.objs.size:=let ⟨_,hn,_⟩:=I.loc; hn.lt
theorem Inv.sz (I:Inv X pins σ H s):X.s₀.heap.objs.size<=s.heap.objs.size:=le_trans I.ok.above (le_of_lt I.lt)
theorem Inv.nofs (I:Inv X pins σ H s) {a:Addr} (h:s.heap.objs.size<=a):a ∉ X.fs:=fun hb=>by
 obtain⟨_,o,ho,_⟩:=I.ok.funs.mem hb
 exact absurd (lt_of_lt_of_le (lt_size ho) (le_trans I.sz h)) (lt_irrefl _)
theorem Inv.cne (I:Inv X pins σ H s):∀ x c,X.env.cells.lookup x=some c->c≠X.env.locals:=fun x c e z=>by
 obtain⟨v,o,ho,hd⟩:=I.cell x c e
 obtain⟨m,⟨o',es,ep,ho',hd',_⟩,_⟩:=I.loc
 rw[z,ho']at ho; cases ho; rw[hd']at hd; cases hd
theorem Inv.funs (I:Inv X pins σ H s):s.heap.FunFrames X.base X.outer:=by
 have all:∀ (l:List Env),(∀ b∈frs l,b∈X.fs)->X.s₀.heap.FunFrames X.base l->s.heap.FunFrames X.base l:=by
  intro l
  induction l with
  | nil=>intro _ _; trivial
  | cons env r ih=>
   intro hs hl
   obtain⟨hk,⟨L,o,hf,hn,ho,hd⟩,hr⟩:=hl
   have hL:L∈X.fs:=hs L (by unfold frs; rw[filterMap_cons,hf]; exact mem_cons_self)
   obtain⟨sl,e⟩:=I.base.slot L o ho (I.ok.frf L hL) hL fun z=>I.ok.exfs L z hL
   exact⟨hk,⟨L,_,hf,hn,e,hd⟩,ih (fun b hb=>hs b (by unfold frs; rw[filterMap_cons,hf]; exact mem_cons_of_mem _ hb)) hr⟩
 exact all X.outer (fun _ hb=>hb) I.ok.funs
theorem Inv.stack (I:Inv X pins σ H s):s.heap.FunFrames X.base X.stack:=by
 rcases I.ok.stk with e | ⟨e,hf⟩
 ·rw[e]; exact I.funs
 ·rw[e]
  obtain⟨m,hn,_⟩:=I.loc
  refine .cons (by rw[I.ok.kind]; decide) hf hn ?_ I.funs
  exact Heap.get?_none_of_le (le_trans I.ok.bsz I.ok.above)
theorem Inv.stkSub (I:Inv X pins σ H s):∀ b∈frs X.stack,b∈X.env.locals::X.fs:=fun b hb=>by
 rcases I.ok.stk with e | ⟨e,hf⟩
 ·rw[e]at hb; exact mem_cons_of_mem _ hb
 ·rw[e]at hb
  unfold frs at hb
  rw[filterMap_cons,hf]at hb
  exact hb
theorem Inv.stkFree (I:Inv X pins σ H s):∀ b∈frs X.stack,H b=none:=fun b hb=>by
 rcases mem_cons.mp (I.stkSub b hb) with e | hb
 ·rw[e]; exact I.free
 ·obtain⟨_,o,ho,_⟩:=I.ok.funs.mem hb
  exact I.base.free b o ho (I.ok.frf b hb) fun z=>I.ok.exfs b z hb
theorem Inv.step {g':Array GenState} {t':Nat} {d':Drawn} {ch:List Addr} (I:Inv X pins σ H s)
  (hch:∀ b∈ch,(b∈X.ex\/X.s₀.heap.objs.size<=b)/\b≠X.env.locals/\(∀ x c,X.env.cells.lookup x=some c->c≠b)/\∀ p∈X.pn++pins,p.1≠b)
  (keep:∀ b o,b≠X.env.locals->b ∉ X.fs->b ∉ ch->s.heap.get? b=some o->H b=none->h'.get? b=some o)
  (slot:∀ b o,b≠X.env.locals->b∈X.fs->b ∉ ch->s.heap.get? b=some o->H b=none->∃ sl,h'.get? b=some { o with slots:=sl }) (free:∀ b o,b ∉ ch->s.heap.get? b=some o->H b=none->H' b=none)
  (there:∀ b o,b ∉ ch->s.heap.get? b=some o->∃ o',h'.get? b=some o')
  (tups:∀ b xs,H b=some (.tup xs)->H' b=some (.tup xs)) (frzs:∀ b o u,H b=some (.frz o u)->H' b=some (.frz o u)) (tbls:∀ b ps,H b=some (.tbl ps)->∃ more,H' b=some (.tbl (ps++more)))
  (ns:∀ m,s.heap.Ns X.env.locals m->h'.Ns X.env.locals m) (hok:HOk X.prog X.w H' h') (hg:AllBare g') :
  Inv X pins σ H' { s with heap:=h',gens:=g',drawn:=d',toks:=t' }:=by
 have neL:∀ b o,X.s₀.heap.get? b=some o->b≠X.env.locals:=fun b o e=>ne_of_lt (lt_of_lt_of_le (lt_size e) I.ok.above)
 have neC:∀ b o,X.s₀.heap.get? b=some o->b ∉ X.ex->b ∉ ch:=fun b o e hx hb=>by
  rcases (hch b hb).1 with z | z
  ·exact hx z
  ·exact absurd (lt_of_lt_of_le (lt_size e) z) (lt_irrefl _)
 have cellK:∀ x c,X.env.cells.lookup x=some c->∀ v,s.heap.IsCell c v->h'.IsCell c v:=fun x c e v ⟨o,ho,hd⟩=>by
  have nch:c ∉ ch:=fun z=>(hch c z).2.2.1 x c e rfl
  by_cases hc:c∈X.fs
  ·obtain⟨sl,q⟩:=slot c o (I.cne x c e) hc nch ho (I.freeC x c e)
   exact⟨_,q,hd⟩
  ·exact⟨o,keep c o (I.cne x c e) hc nch ho (I.freeC x c e),hd⟩
 refine⟨I.ok,I.os,hg,⟨fun b o e n hb hx=>?_,fun b o e n hb hx=>?_,fun b o e n hx=>?_,fun b o e hx=>?_,fun b xs e=>tups b xs (I.base.tups b xs e),fun b o xs e=>frzs b o xs (I.base.frzs b o xs e),fun b ps e=>?_⟩,?_,fun x c e=>?_,?_,fun x c e=>?_,fun p hp=>?_,hok,I.len⟩
 ·exact keep b o (neL b o e) hb (neC b o e hx) (I.base.keep b o e n hb hx) (I.base.free b o e n hx)
 ·obtain⟨sl,e1⟩:=I.base.slot b o e n hb hx
  obtain⟨sl',e2⟩:=slot b _ (neL b o e) hb (neC b o e hx) e1 (I.base.free b o e n hx)
  exact⟨sl',e2⟩
 ·obtain⟨o',e1⟩:=I.base.there b o e hx
  exact free b o' (neC b o e hx) e1 (I.base.free b o e n hx)
 ·obtain⟨o',e1⟩:=I.base.there b o e hx
  exact there b o' (neC b o e hx) e1
 ·obtain⟨m1,e1⟩:=I.base.tbls b ps e
  obtain⟨m2,e2⟩:=tbls b _ e1
  exact⟨m1++m2,by rw[e2,Array.append_assoc]⟩
 ·obtain⟨m,hn,hl⟩:=I.loc
  refine⟨m,ns m hn,fun i x v e1 e2 e3=>?_⟩
  obtain⟨u,r,l⟩:=hl i x v e1 e2 e3
  refine⟨u,r,?_⟩
  rcases l with l | ⟨k,c,e,z⟩
  ·exact .inl l
  ·exact .inr ⟨k,c,e,cellK x c e _ z⟩
 ·obtain⟨v,z⟩:=I.cell x c e
  exact⟨v,cellK x c e v z⟩
 ·obtain⟨m,⟨o,_,_,ho,_⟩,_⟩:=I.loc
  exact free _ o (fun z=>(hch _ z).2.1 rfl) ho I.free
 ·obtain⟨v,o,ho,hd⟩:=I.cell x c e
  exact free c o (fun z=>(hch c z).2.2.1 x c e rfl) ho (I.freeC x c e)
 ·obtain⟨e,n,ne,nf,d⟩:=I.pin p hp
  have nch:p.1 ∉ ch:=fun z=>(hch p.1 z).2.2.2 p hp rfl
  exact⟨keep p.1 p.2 ne nf nch e n,free p.1 p.2 nch e n,ne,nf,d⟩
theorem Inv.un {t':Nat} (I:Inv X pins σ H s) (u:Un X.fs [] H H' s.heap h') (hok:HOk X.prog X.w H' h'):Inv X pins σ H' { s with heap:=h',toks:=t' }:=by
 obtain⟨m,⟨o,es,ep,ho,r⟩,_⟩:=id I.loc
 obtain⟨sl,hL⟩:=u.any ho I.free (by simp)
 exact I.step (g':=s.gens) (d':=s.drawn) (ch:=[]) (fun _ z=>nomatch z) (fun b o _ hb _ e n=>u.keep b o e n hb (by simp)) (fun b o _ hb _ e n=>u.slot b o e n hb (by simp)) (fun b o _ e n=>u.free b o e n (by simp)) (fun b o _ e=>u.there b o e (by simp)) u.tups u.frzs u.tbls (fun m' hm=>by
  obtain⟨o',es',ep',ho',r'⟩:=hm
  rw[ho]at ho'; cases ho'
  exact⟨_,es',ep',hL,r'⟩) hok I.bare
theorem Inv.call {g':Array GenState} {t':Nat} {d':Drawn} {ch:List Addr} (I:Inv X pins σ H s) (u:Un (frs X.stack) ch H H' s.heap h') (hok:HOk X.prog X.w H' h') (hg:AllBare g')
  (hch:∀ b∈ch,(b∈X.ex\/X.s₀.heap.objs.size<=b)/\b≠X.env.locals/\(∀ x c,X.env.cells.lookup x=some c->c≠b)/\∀ p∈X.pn++pins,p.1≠b) :
  Inv X pins σ H' { s with heap:=h',gens:=g',drawn:=d',toks:=t' }:=by
 obtain⟨m,⟨o,es,ep,ho,r⟩,_⟩:=id I.loc
 obtain⟨sl,hL⟩:=u.any ho I.free fun z=>(hch _ z).2.1 rfl
 exact I.step (ch:=ch) hch (fun b o hL hb hc e n=>u.keep b o e n (fun z=>(mem_cons.mp (I.stkSub b z)).elim hL hb) hc) (fun b o _ _ hc e n=>u.any e n hc) (fun b o hc e n=>u.free b o e n hc) (fun b o hc e=>u.there b o e hc) u.tups u.frzs u.tbls (fun m' hm=>by
  obtain⟨o',es',ep',ho',r'⟩:=hm
  rw[ho]at ho'; cases ho'
  exact⟨_,es',ep',hL,r'⟩) hok hg
theorem Inv.turned {t':Nat} {it:Addr} (I:Inv X pins σ H s) (k:∀ b o,b≠it->s.heap.get? b=some o->h'.get? b=some o) (hn:H it=none) (hL:it≠X.env.locals)
  (h1:it∈X.ex\/X.s₀.heap.objs.size<=it) (h2:∀ x c,X.env.cells.lookup x=some c->c≠it) (h3:∀ p∈X.pn++pins,p.1≠it):Inv X pins σ H { s with heap:=h',toks:=t' }:=by
 have nit:∀ b u,H b=some u->b≠it:=fun b u e z=>by rw[z,hn]at e; cases e
 refine I.step (g':=s.gens) (d':=s.drawn) (ch:=[it]) (fun b hb=>?_) (fun b o _ _ hc e _=>k b o (fun z=>hc (by simp [z])) e) (fun b o _ _ hc e _=>⟨o.slots,k b o (fun z=>hc (by simp [z])) e⟩) (fun _ _ _ _ n=>n)
  (fun b o hc e=>⟨o,k b o (fun z=>hc (by simp [z])) e⟩) (fun _ _ e=>e) (fun _ _ _ e=>e) (fun b ps e=>⟨#[],by rw[e]; simp⟩) (fun m hm=>?_) (fun b u e=>?_) I.bare
 ·have e:b=it:=by simpa using hb
  subst e
  exact⟨h1,hL,h2,h3⟩
 ·obtain⟨o,es,ep,ho,r⟩:=hm
  exact⟨o,es,ep,k _ o (Ne.symm hL) ho,r⟩
 ·refine(I.hok b u e).stay (fun c v hc q=>k c v ?_ q) (fun _ q=>q) fun _ _ q=>q
  rcases hc with z | z
  ·rw[z]; exact nit b u e
  ·exact nit c _ z
theorem Inv.tok (I:Inv X pins σ H s) (t:Nat):Inv X pins σ H { s with toks:=t }:=I.un (h':=s.heap) (t':=t) Un.refl I.hok
theorem Inv.kept {t':Nat} (I:Inv X pins σ H s) (k:∀ b u,s.heap.get? b=some u->h'.get? b=some u):Inv X pins σ H { s with heap:=h',toks:=t' }:=I.un (Un.kept k) (I.hok.kept k)
theorem Inv.laid {a:Addr} {o:HO} {t':Nat} (I:Inv X pins σ H s) (k:∀ b u,s.heap.get? b=some u->h'.get? b=some u) (hp:s.heap.objs.size<=a) (new:dC X.prog X.w (upd H a o) h' a o) :
  Inv X pins σ (upd H a o) { s with heap:=h',toks:=t' }:=I.un (Un.laid k hp (I.hok.fresh hp)) (I.hok.laid k hp new)
theorem Inv.write {x e:Addr} {o:HO} {t':Nat} (I:Inv X pins σ H s) (mu:Mut (H x)) (he:e=x\/H e=some (.own x)) (k:∀ b u,b≠e->s.heap.get? b=some u->h'.get? b=some u) (heo:∃ u,h'.get? e=some u)
  (new:dC X.prog X.w (upd H x o) h' x o):Inv X pins σ (upd H x o) { s with heap:=h',toks:=t' }:=I.un (Un.write mu he k heo) (I.hok.write mu he k heo new)
theorem Inv.pins_of {pins':List (Addr × Obj)} (I:Inv X pins σ H s) (h:∀ p∈pins',s.heap.get? p.1=some p.2/\H p.1=none/\p.1≠X.env.locals/\p.1 ∉ X.fs/\∀ v,p.2.data ≠ .cell v):Inv X pins' σ H s:=
 ⟨I.ok,I.os,I.bare,I.base,I.loc,I.cell,I.free,I.freeC,fun p hp=>(mem_append.mp hp).elim (fun z=>I.pin p (mem_append_left _ z)) (h p),I.hok,I.len⟩
theorem AF {N:List Str} (hN:N.Nodup) {i j:Nat} {x:Str} (a:N[i]? = some x) (b:N[j]? = some x):i=j:=by
 obtain⟨h1,e1⟩:=List.getElem?_eq_some_iff.mp a
 obtain⟨h2,e2⟩:=List.getElem?_eq_some_iff.mp b
 exact(List.getElem_inj hN).mp (e1.trans e2.symm)
theorem Cu {M:Model} {A:Around} {E:Value->Shared->Prop} {i:Nat} {x:Str} {v:V} {u:Value} {Q:Unit->Shared->Prop} (I:Inv X pins σ H s) (hN:X.N.Nodup) (hi:X.N[i]? = some x) (hx:Loc X.env.scope x) (r:bW v u)
  (h:∀ s',Inv X pins (σ.set i (some v)) H s'->(∃ a,Heap.SameBut a s.heap s'.heap/\(a=X.env.locals\/X.env.cells.lookup x=some a))->Q () s') (hf:X.fn x=true\/X.env.scope.names.lookup x=some .local:=by first | exact .inl rfl | exact .inr rfl | assumption):wpAny M A (storeName X.env x u) Q E s:=by
 obtain⟨m,hn,hl⟩:=id I.loc
 have hcls:(X.env.scope.kind == .class || (X.env.scope.kind == .module && X.env.locals != X.env.globals))=false:=by rw[I.ok.kind]; rfl
 have hiσ : i < σ.length:=by rw[I.len]; exact(List.getElem?_eq_some_iff.mp hi).1
 have cne:=I.cne
 have tracked:∀ {a:Addr} {h':Heap},(∃ o,s.heap.get? a=some o/\H a=none)->Heap.SameBut a s.heap h'->HOk X.prog X.w H h':=fun {a h'} ha hs b ob e=>by
  obtain⟨_,_,hfree⟩:=ha
  refine(I.hok b ob e).stay (fun c w' hc q=>(hs.2 c ?_).trans q) (fun _ q=>q) fun _ _ q=>q
  rintro rfl
  rcases hc with rfl | hc
  ·rw[hfree]at e; cases e
  ·rw[hfree]at hc; cases hc
 rcases hx with hk | hk
 ·refine wpAny_storeName_local hk hn (fun h' hn' hs=>?_) hcls
  obtain⟨oL,_,_,hoL,_⟩:=id hn
  refine h _ ⟨I.ok,I.os,I.bare,⟨fun b o e n hb hx=>?_,fun b o e n hb hx=>?_,I.base.free,fun b o e hx=>?_,I.base.tups,I.base.frzs,I.base.tbls⟩,⟨_,hn',fun j y v' e1 e2 e3=>?_⟩,fun y c e=>?_,I.free,I.freeC,fun p hp=>?_,tracked ⟨oL,hoL,I.free⟩ hs,by simpa using I.len⟩ ⟨_,hs,.inl rfl⟩
  ·exact(hs.2 b (ne_of_lt (lt_of_lt_of_le (lt_size e) I.ok.above))).trans (I.base.keep b o e n hb hx)
  ·obtain⟨sl,e1⟩:=I.base.slot b o e n hb hx
   exact⟨sl,(hs.2 b (ne_of_lt (lt_of_lt_of_le (lt_size e) I.ok.above))).trans e1⟩
  ·obtain⟨o',e1⟩:=I.base.there b o e hx
   exact⟨o',(hs.2 b (ne_of_lt (lt_of_lt_of_le (lt_size e) I.ok.above))).trans e1⟩
  ·by_cases hj:j=i
   ·subst hj
    rw[hi]at e1; cases e1
    rw[List.getElem?_set_self hiσ]at e2
    cases e2
    exact⟨u,r,.inl ⟨hk,by simp⟩⟩
   ·rw[List.getElem?_set_ne (Ne.symm hj)]at e2
    obtain⟨u',r',q⟩:=hl j y v' e1 e2 e3
    refine⟨u',r',?_⟩
    rcases q with ⟨k,e⟩ | ⟨k,c,e,z⟩
    ·refine .inl ⟨k,?_⟩
     have:y≠x:=fun e=>hj (AF hN e1 (e ▸ hi))
     simp [this,e]
    ·exact .inr ⟨k,c,e,z.sameBut hs (cne y c e)⟩
  ·obtain⟨w',z⟩:=I.cell y c e
   exact⟨w',z.sameBut hs (cne y c e)⟩
  ·obtain⟨e,n,ne,nf,d⟩:=I.pin p hp
   exact⟨(hs.2 p.1 ne).trans e,n,ne,nf,d⟩
 ·have hfn:X.fn x=true:=by
   rcases hf with z | z
   ·exact z
   ·rw[z]at hk; cases hk
  obtain⟨c,hc⟩:=I.ok.has x (.inl hk)
  obtain⟨w',z⟩:=I.cell x c hc
  refine wpAny_storeName_cell I.ok.kind hk hc z (fun h' hc' hs=>?_)
  obtain⟨oc,hoc,hocd⟩:=id z
  refine h { s with heap:=h' } ⟨I.ok,I.os,I.bare,⟨fun b o e n hb hx=>?_,fun b o e n hb hx=>?_,I.base.free,fun b o e hx=>?_,I.base.tups,I.base.frzs,I.base.tbls⟩,⟨m,hn.sameBut hs (Ne.symm (cne x c hc)),fun j y v' e1 e2 e3=>?_⟩,fun y c' e=>?_,I.free,I.freeC,fun p hp=>?_,tracked ⟨oc,hoc,I.freeC x c hc⟩ hs,by simpa using I.len⟩ ⟨c,hs,.inr hc⟩
  ·exact(hs.2 b (ne_of_lt (lt_of_lt_of_le (lt_size e) (I.ok.cab x c hfn hc)))).trans (I.base.keep b o e n hb hx)
  ·obtain⟨sl,e1⟩:=I.base.slot b o e n hb hx
   exact⟨sl,(hs.2 b (ne_of_lt (lt_of_lt_of_le (lt_size e) (I.ok.cab x c hfn hc)))).trans e1⟩
  ·obtain⟨o',e1⟩:=I.base.there b o e hx
   exact⟨o',(hs.2 b (ne_of_lt (lt_of_lt_of_le (lt_size e) (I.ok.cab x c hfn hc)))).trans e1⟩
  ·by_cases hj:j=i
   ·subst hj
    rw[hi]at e1; cases e1
    rw[List.getElem?_set_self hiσ]at e2
    cases e2
    exact⟨u,r,.inr ⟨.inl hk,c,hc,hc'⟩⟩
   ·rw[List.getElem?_set_ne (Ne.symm hj)]at e2
    obtain⟨u',r',q⟩:=hl j y v' e1 e2 e3
    refine⟨u',r',?_⟩
    rcases q with q | ⟨k,c',e,z'⟩
    ·exact .inl q
    ·refine .inr ⟨k,c',e,z'.sameBut hs ?_⟩
     rintro rfl
     exact hj (AF hN e1 (I.ok.inj _ _ _ e hc ▸ hi))
  ·by_cases hcc:c'=c
   ·subst hcc; exact⟨_,hc'⟩
   ·obtain⟨w2,z2⟩:=I.cell y c' e
    exact⟨w2,z2.sameBut hs hcc⟩
  ·obtain⟨e,n,ne,nf,d⟩:=I.pin p hp
   refine⟨(hs.2 p.1 ?_).trans e,n,ne,nf,d⟩
   intro q
   rw[q,hoc]at e
   have q':oc=p.2:=Option.some.inj e
   exact d w' (by rw[<- q']; exact hocd)
theorem sI {M:Model} {A:Around} {E:Value->Shared->Prop} {i:Nat} {x:Str} {v:V} {u:Value} {Q:Unit->Shared->Prop} (I:Inv X pins σ H s) (hN:X.N.Nodup) (hi:X.N[i]? = some x) (hx:Loc X.env.scope x) (r:bW v u)
  (h:∀ s',Inv X pins (σ.set i (some v)) H s'->Q () s') (hf:X.fn x=true\/X.env.scope.names.lookup x=some .local:=by first | exact .inl rfl | exact .inr rfl | assumption):wpAny M A (storeName X.env x u) Q E s:=
 Cu I hN hi hx r (fun s' I' _=>h s' I') hf
theorem Inv.call' {s':Shared} {ch:List Addr} (I:Inv X pins σ H s) (ho:s'.os=s.os) (u:Un (frs X.stack) ch H H' s.heap s'.heap) (hok:HOk X.prog X.w H' s'.heap) (hg:AllBare s'.gens)
  (hch:∀ b∈ch,(b∈X.ex\/X.s₀.heap.objs.size<=b)/\b≠X.env.locals/\(∀ x c,X.env.cells.lookup x=some c->c≠b)/\∀ p∈X.pn++pins,p.1≠b):Inv X pins σ H' s':=by
 obtain⟨h',g',d',t',o'⟩:=s'
 have e:o'=s.os:=ho
 subst e
 exact I.call (g':=g') (t':=t') (d':=d') u hok hg hch
end
noncomputable abbrev XK:=Value->Option Addr->Hp->Prop
noncomputable abbrev St:=List (Option V)
noncomputable abbrev VK:=V->Hp->Prop
noncomputable abbrev TE:=St->Hp->VK->Prop
noncomputable abbrev TT:=St->Hp->(Bool->Hp->Prop)->Prop
noncomputable abbrev TA:=St->Hp->(List V->Hp->Prop)->Prop
structure Ends where
 nx:St->Hp->Prop
 rt:VK
 bk:St->Hp->Prop:=fun _ _=>False
 ct:St->Hp->Prop:=fun _ _=>False
noncomputable abbrev TS:=Ends->St->Hp->Prop
def EP (X:Cx) (pins:List (Addr × Obj)) (σ : St) (Q:VK) (u:Value) (s':Shared):Prop:=∃ v H',Inv X pins σ H' s'/\bW v u/\Q v H'
def TP (X:Cx) (pins:List (Addr × Obj)) (σ : St) (Q:Bool->Hp->Prop) (b:Bool) (s':Shared):Prop:=∃ H',Inv X pins σ H' s'/\Q b H'
def AP (X:Cx) (pins:List (Addr × Obj)) (σ : St) (Q:List V->Hp->Prop) (us:List Value) (s':Shared):Prop:=∃ vs H',Inv X pins σ H' s'/\bQ vs us/\Q vs H'
def SP (X:Cx) (pins:List (Addr × Obj)) (D:Ends) (f:Flow) (s':Shared):Prop:=
 match f with
 | .next=>∃ σ' H',Inv X pins σ' H' s'/\D.nx σ' H'
 | .brk=>∃ σ' H',Inv X pins σ' H' s'/\D.bk σ' H'
 | .cont=>∃ σ' H',Inv X pins σ' H' s'/\D.ct σ' H'
 | .ret u=>∃ v σ' H',Inv X pins σ' H' s'/\bW v u/\D.rt v H'
def PE (X:Cx) (e:Expr) (t:TE):Prop:=
 ∀ (pins:List (Addr × Obj)) (s:Shared) (σ : St) (H:Hp) (Q:VK),Inv X pins σ H s->t σ H Q->wpAny (model X.prog X.w) X.A (eval e X.env) (EP X pins σ Q) X.xe s
def PT (X:Cx) (e:Expr) (t:TT):Prop:=
 ∀ (pins:List (Addr × Obj)) (s:Shared) (σ : St) (H:Hp) (Q:Bool->Hp->Prop),Inv X pins σ H s->t σ H Q->wpAny (model X.prog X.w) X.A (isTrue e X.env (eval e X.env)) (TP X pins σ Q) X.xe s
def PW (X:Cx) (e:Expr) (t:TT):Prop:=
 ∀ (whole:Sem Value) (pins:List (Addr × Obj)) (s:Shared) (σ : St) (H:Hp) (Q:Bool->Hp->Prop),Inv X pins σ H s->t σ H Q->wpAny (model X.prog X.w) X.A (isTrue e X.env whole) (TP X pins σ Q) X.xe s
theorem PW.pt {X:Cx} {e:Expr} {t:TT} (h:PW X e t):PT X e t:=h _
def PA (X:Cx) (es:List Expr) (t:TA):Prop:=
 ∀ (pos:Pos) (pins:List (Addr × Obj)) (s:Shared) (σ : St) (H:Hp) (Q:List V->Hp->Prop),Inv X pins σ H s->t σ H Q->wpAny (model X.prog X.w) X.A (spliced (backTo pos (starEach es X.env))) (AP X pins σ Q) X.xe s
def PS (X:Cx) (st:Stmt) (t:TS):Prop:=
 ∀ (pins:List (Addr × Obj)) (s:Shared) (σ : St) (H:Hp) (D:Ends),Inv X pins σ H s->t D σ H->wpAny (model X.prog X.w) X.A (exec st X.env) (SP X pins D) X.xe s
def PSs (X:Cx) (st:List Stmt) (t:TS):Prop:=
 ∀ (pins:List (Addr × Obj)) (s:Shared) (σ : St) (H:Hp) (D:Ends),Inv X pins σ H s->t D σ H->wpAny (model X.prog X.w) X.A (execs st X.env) (SP X pins D) X.xe s
theorem thn {α : Type} {t:Sem α} {Q Q':α->Shared->Prop} {M:Model} {A:Around} {E:Value->Shared->Prop} {s:Shared} (h:wpAny M A t Q E s) (hQ:∀ a s,Q a s->Q' a s):wpAny M A t Q' E s:=wpAny_mono h hQ fun _ _ x=>x
section
variable {X:Cx}
def cR (i:Nat):TE:=fun σ H Q=>∃ v,σ[i]? = some (some v)/\Q v H
def tC (v:V):TE:=fun _ H Q=>Q v H
theorem HK {i:Nat} {x:Str} {pos:Pos} (hN:X.N[i]? = some x) (hv:Vis X.env.scope x) (hd:(x == ("__debug__" : Str))=false:=by decide) (hcd:(x == ("__classdict__" : Str))=false:=by decide):PE X (.Name x pos) (cR i):=by
 intro pins s σ H Q I h
 obtain⟨v,e,h⟩:=h
 obtain⟨m,hn,hl⟩:=I.loc
 obtain⟨u,r,l⟩:=hl i x v hN e hv
 have fin:EP X pins σ Q u s:=⟨v,H,I,r,h⟩
 rcases l with ⟨hk,hm⟩ | ⟨hk,c,hc,hcell⟩
 ·exact wpAny_Name (wpAny_loadName_local I.ok.kind hk hn hm fin) hd
 ·rcases hk with hk | hk
  ·exact wpAny_Name (wpAny_loadName_cell I.ok.kind hk hc hcell fin) hd
  ·exact wpAny_Name (wpAny_loadName_free I.ok.kind hk hc hcell fin hcd) hd
theorem jG {i j pos}:PE X (.Constant (.int i) j pos) (tC (.int i)):=fun _ _ _ H _ I h=>wpAny_Constant_int ⟨.int i,H,I.tok _,⟨_,rfl⟩,h⟩
theorem CL {b j pos}:PE X (.Constant (.bool b) j pos) (tC (.bl b)):=fun _ _ _ H _ I h=>Constant_bool ⟨.bl b,H,I,rfl,h⟩
theorem lB {j pos}:PE X (.Constant .none j pos) (tC .non):=fun _ _ _ H _ I h=>Constant_none ⟨.non,H,I,rfl,h⟩
theorem cW {x j pos}:PE X (.Constant (.str x) j pos) (tC (.str x)):=fun _ _ _ H _ I h=>Calls.Constant_str ⟨.str x,H,I.tok _,⟨_,rfl⟩,h⟩
def Gl (X:Cx) (x:Str):Prop:=X.env.kindOf x=some .globalImplicit
theorem o5 {E:Value->Shared->Prop} {pins:List (Addr × Obj)} {s:Shared} {σ : St} {H:Hp} {x:Str} {u:Value} {pos:Pos} {Q:Value->Shared->Prop} (I:Inv X pins σ H s) (hg:Gl X x) (hm:X.mg x=some u) (h:Q u s)
  (hd:(x == ("__debug__" : Str))=false:=by decide):wpAny (model X.prog X.w) X.A (eval (.Name x pos) X.env) Q E s:=
 Calls.Name_function_global I.ok.kind hg (Calls.loadGlobal_global (by rw[I.ok.glob]; exact I.mod.glob.keeps I.bk) hm h) hd
theorem nV {E:Value->Shared->Prop} {pins:List (Addr × Obj)} {s:Shared} {σ : St} {H:Hp} {x:Str} {u:Value} {pos:Pos} {Q:Value->Shared->Prop} (I:Inv X pins σ H s) (hg:Gl X x) (hm:X.mg x=none) (hv:bootBuiltins x=some u) (h:Q u s)
  (hn:x ≠ "__name__":=by decide) (hd:(x == ("__debug__" : Str))=false:=by decide):wpAny (model X.prog X.w) X.A (eval (.Name x pos) X.env) Q E s:=by
 obtain⟨mb,h1,h2⟩:=I.mod.blt
 exact Calls.Name_function_global I.ok.kind hg (Calls.loadGlobal_builtin (by rw[I.ok.glob]; exact I.mod.glob.keeps I.bk) hm (by rw[I.ok.blt]; exact h1.keeps I.bk) ((h2 x hn).trans hv) h) hd
theorem bX {x:Str} {v:V} {u:Value} {pos:Pos} (hg:Gl X x) (hm:X.mg x=some u) (r:bW v u) (hd:(x == ("__debug__" : Str))=false:=by decide):PE X (.Name x pos) (tC v):=
 fun _ _ _ H _ I h=>o5 I hg hm ⟨v,H,I,r,h⟩ hd
theorem mU {x:Str} {v:V} {u:Value} {pos:Pos} (hg:Gl X x) (hm:X.mg x=none) (hv:bootBuiltins x=some u) (r:bW v u) (hn:x ≠ "__name__":=by decide) (hd:(x == ("__debug__" : Str))=false:=by decide):PE X (.Name x pos) (tC v):=
 fun _ _ _ H _ I h=>nV I hg hm hv ⟨v,H,I,r,h⟩ hn hd
variable {a b:Expr} {ta tb:TE} {pos:Pos}
def PC (X:Cx) (op:CmpOp) (a b:Expr) (t:TE):Prop:=
 ∀ (pins:List (Addr × Obj)) (s:Shared) (σ : St) (H:Hp) (Q:VK),Inv X pins σ H s->t σ H Q->
  wpAny (model X.prog X.w) X.A (eval a X.env) (fun v s₁=>wpAny (model X.prog X.w) X.A (eval b X.env) (fun u s₂=>wpAny (model X.prog X.w) X.A (compareOp op v u) (EP X pins σ Q) X.xe s₂) X.xe s₁) X.xe s
theorem Ev (b:Expr) {op:CmpOp} (h:op ≠ .In) (h2:op ≠ .NotIn):behindInMarks op b=false:=by
 have e1:(op == CmpOp.In)=false:=by cases op <;> first | rfl | exact absurd rfl h
 have e2:(op == CmpOp.NotIn)=false:=by cases op <;> first | rfl | exact absurd rfl h2
 cases b <;> simp [behindInMarks,e1,e2]
def tB (t:TE):TT:=fun σ H Q=>t σ H fun x H1=>∃ c,x = .bl c/\Q c H1
theorem tR {op:CmpOp} {t:TE} (h:PC X op a b t) (h1:behindInMarks op b=false:=by first | exact Ev _ (by decide) (by decide) | rfl):PT X (.Compare a [op] [b] pos) (tB t):=by
 intro pins s σ H Q I hw
 refine wpAny_isTrue_Compare1 (thn (h pins s σ H _ I hw) fun v s1 h1=>thn h1 fun u s2 h2=>thn h2 fun c s3 zQq=>?_) h1
 obtain⟨x,H1,I1,r1,q1⟩:=zQq
 obtain⟨d,rfl,q⟩:=q1
 cases r1
 exact wpAny_truthy_bool ⟨H1,I1,q⟩
theorem dG {e:Expr} {t:TE} (h:PE X e t) (he:∀ whole,isTrue e X.env whole=(do let v <- whole; standAt e.pos; holding [v] (truthy v)):=by intro _; rfl):PT X e (tB t):=by
 intro pins s σ H Q I hw
 refine isTrue_plain (thn (h pins s σ H _ I hw) fun v s1 zQq=>?_) (he _)
 obtain⟨x,H1,I1,r1,q1⟩:=zQq
 obtain⟨d,rfl,q⟩:=q1
 cases r1
 exact wpAny_truthy_bool ⟨H1,I1,q⟩
variable {tA tB':TT} {rest:List Expr}
def tAnd (t u:TT):TT:=fun σ H Q=>t σ H fun c H1=>if c=true then u σ H1 Q else Q false H1
def tOr (t u:TT):TT:=fun σ H Q=>t σ H fun c H1=>if c=true then Q true H1 else u σ H1 Q
def tNot (t:TT):TT:=fun σ H Q=>t σ H fun c H1=>Q (!c) H1
theorem oQ (ha:PT X a tA):PW X (.BoolOp .And [a] pos) tA:=by
 intro wh pins s σ H Q I h
 refine isTrue_and (thn (ha pins s σ H Q I h) fun c s1 e=>?_)
 cases c with
 | true=>exact isTrue_and_nil e
 | false=>exact e
theorem nR (ha:PT X a tA):PW X (.BoolOp .Or [a] pos) tA:=by
 intro wh pins s σ H Q I h
 refine isTrue_or (thn (ha pins s σ H Q I h) fun c s1 e=>?_)
 cases c with
 | false=>exact isTrue_or_nil e
 | true=>exact e
theorem tO (ha:PT X a tA) (hb:PW X (.BoolOp .And (b::rest) pos) tB'):PW X (.BoolOp .And (a::b::rest) pos) (tAnd tA tB'):=by
 intro wh pins s σ H Q I h
 refine isTrue_and (thn (ha pins s σ H _ I h) fun c s1 zQq=>?_)
 obtain⟨H1,I1,q1⟩:=zQq
 cases c with
 | true=>exact hb wh pins s1 σ H1 Q I1 q1
 | false=>exact⟨H1,I1,q1⟩
theorem q0 (ha:PT X a tA) (hb:PW X (.BoolOp .Or (b::rest) pos) tB'):PW X (.BoolOp .Or (a::b::rest) pos) (tOr tA tB'):=by
 intro wh pins s σ H Q I h
 refine isTrue_or (thn (ha pins s σ H _ I h) fun c s1 zQq=>?_)
 obtain⟨H1,I1,q1⟩:=zQq
 cases c with
 | true=>exact⟨H1,I1,q1⟩
 | false=>exact hb wh pins s1 σ H1 Q I1 q1
theorem cP (ha:PT X a tA):PT X (.UnaryOp .Not a pos) (tNot tA):=by
 intro pins s σ H Q I h
 exact isTrue_not (ha pins s σ H (fun c H1=>Q (!c) H1) I h)
def tAndV (ta tb:TE):TE:=fun σ H Q=>ta σ H fun x H1=>∃ c,x = .bl c/\if c=true then tb σ H1 Q else Q (.bl false) H1
theorem tU {op} {t:TE} (h:PE X a t):PE X (.BoolOp op [a] pos) t:=fun pins s σ H Q I hw=>BoolOp_one (h pins s σ H Q I hw)
theorem qI (ha:PE X a ta) (hb:PE X (.BoolOp .And (b::rest) pos) tb):PE X (.BoolOp .And (a::b::rest) pos) (tAndV ta tb):=by
 intro pins s σ H Q I h
 refine BoolOp_and (thn (ha pins s σ H _ I h) fun v s1 zQq=>?_)
 obtain⟨x,H1,I1,r1,q1⟩:=zQq
 obtain⟨c,rfl,q1⟩:=q1
 cases r1
 refine wpAny_truthy_bool ?_
 cases c with
 | true=>exact hb pins s1 σ H1 Q I1 q1
 | false=>exact⟨.bl false,H1,I1,rfl,q1⟩
def tIf (t:TT) (ta tb:TE):TE:=fun σ H Q=>t σ H fun c H1=>if c=true then ta σ H1 Q else tb σ H1 Q
theorem Eg {c:Expr} (hc:PT X c tA) (ha:PE X a ta) (hb:PE X b tb):PE X (.IfExp c a b pos) (tIf tA ta tb):=by
 intro pins s σ H Q I h
 refine wpAny_IfExp (thn (hc pins s σ H _ I h) fun d s1 zQq=>?_)
 obtain⟨H1,I1,q1⟩:=zQq
 cases d with
 | true=>exact ha pins s1 σ H1 Q I1 q1
 | false=>exact hb pins s1 σ H1 Q I1 q1
end
def SqL (K:PySem.W.Frag) (H:Hp) (a:Addr) (xs:List V):Prop:=
 Rd H a (.lst xs)\/
  ∃ (o:Obj) (its:Array Value) (n:Nat),K.lookup a=some o/\o.cls = .type "list"/\o.dict=none/\o.data = .seq its n/\its.size<=sizeLine/\bQ xs its.toList
def SqT (K:PySem.W.Frag) (H:Hp) (a:Addr) (xs:List V):Prop:=
 Rd H a (.tup xs)\/
  ∃ (o:Obj) (its:Array Value) (n:Nat),K.lookup a=some o/\o.cls = .type "tuple"/\o.data = .seq its n/\its.size<=sizeLine/\bQ xs its.toList
noncomputable def absV:Value->Option V
 | .none=>some .non
 | .bool b=>some (.bl b)
 | .int i _=>some (.int i)
 | .str x _=>some (.str x)
 | .bytes b _=>some (.byt b)
 | .float b _=>some (.flt b)
 | .ref a=>some (.ref a)
 | .type n=>some (.ty n)
 | _=>none
theorem bW.abs {x:V} {u:Value} (r:bW x u):absV u=some x:=by
 cases x with
 | non=>cases r; rfl
 | bl _=>cases r; rfl
 | int _=>obtain⟨t,rfl⟩:=r; rfl
 | str _=>obtain⟨t,rfl⟩:=r; rfl
 | byt _=>obtain⟨t,rfl⟩:=r; rfl
 | flt _=>obtain⟨t,rfl⟩:=r; rfl
 | ref _=>cases r; rfl
 | ty _=>cases r; rfl
theorem bW.inj {x y:V} {u:Value} (r:bW x u) (q:bW y u):x=y:=Option.some.inj (r.abs.symm.trans q.abs)
theorem bQ.inj:∀ {xs ys:List V} {us:List Value},bQ xs us->bQ ys us->xs=ys
 | _,_,_,.nil,.nil=>rfl
 | _,_,_,.cons r t,.cons r' t'=>by rw[r.inj r',bQ.inj t t']
section
variable {X:Cx} {pins:List (Addr × Obj)} {σ : St} {H:Hp} {s:Shared} {a:Addr} {xs ys:List V}
theorem SqL.of {K:PySem.W.Frag} (h:H a=some (.lst xs)):SqL K H a xs:=.inl (.inl h)
theorem SqT.of {K:PySem.W.Frag} (h:H a=some (.tup xs)):SqT K H a xs:=.inl (.inl h)
theorem Inv.list (I:Inv X pins σ H s) (h:SqL X.K H a xs):∃ its:List Value,bQ xs its/\PlainL s.heap a its.toArray/\xs.length<=sizeLine:=by
 rcases h with h | ⟨o,its,n,hk,hc,hd,hs,hz,r⟩
 ·obtain⟨z,its,n,r,e⟩:=h.ok I.hok
  exact⟨its,r,⟨_,n,e,rfl,rfl,rfl⟩,z⟩
 ·refine⟨its.toList,r,⟨o,n,I.kIn a o hk,hc,hd,by simpa using hs⟩,?_⟩
  have e:=r.length
  simp only[length_toList]at e
  omega
theorem Inv.tuple (I:Inv X pins σ H s) (h:SqT X.K H a xs):∃ its:List Value,bQ xs its/\IsTup s.heap a its.toArray/\xs.length<=sizeLine:=by
 rcases h with h | ⟨o,its,n,hk,hc,hs,hz,r⟩
 ·obtain⟨z,its,r,p⟩:=h.ok I.hok
  exact⟨its,r,p,z⟩
 ·refine⟨its.toList,r,⟨o,I.kIn a o hk,hc,n,by simpa using hs⟩,?_⟩
  have e:=r.length
  simp only[length_toList]at e
  omega
theorem Inv.list_inj (I:Inv X pins σ H s) (h:SqL X.K H a xs) (h':SqL X.K H a ys):xs=ys:=by
 obtain⟨its,r,⟨o,n,e,_,_,d⟩,_⟩:=I.list h
 obtain⟨its',r',⟨o',n',e',_,_,d'⟩,_⟩:=I.list h'
 rw[e]at e'; cases e'
 rw[d]at d'
 injection d' with d1 _
 have:its=its':=by simpa using congrArg Array.toList d1
 subst this
 exact r.inj r'
theorem Inv.tuple_inj (I:Inv X pins σ H s) (h:SqT X.K H a xs) (h':SqT X.K H a ys):xs=ys:=by
 obtain⟨its,r,⟨o,e,_,n,d⟩,_⟩:=I.tuple h
 obtain⟨its',r',⟨o',e',_,n',d'⟩,_⟩:=I.tuple h'
 rw[e]at e'; cases e'
 rw[d]at d'
 injection d' with d1 _
 have:its=its':=by simpa using congrArg Array.toList d1
 subst this
 exact r.inj r'
end
noncomputable abbrev Cx.wish (X:Cx) (E:Value->Shared->Prop):Cx:={ X with xe:=E }
theorem Cx.Ok.wish {X:Cx} (ok:X.Ok) (E:Value->Shared->Prop):(X.wish E).Ok:=
 ⟨ok.mod,ok.kind,ok.glob,ok.blt,ok.above,ok.inj,ok.has,ok.cab,ok.hd,ok.frames,ok.stk,ok.exf,ok.bs,ok.bsz,ok.noex,ok.exfs,ok.funs,ok.frf⟩
theorem Cx.Ok.unwish {X:Cx} {E:Value->Shared->Prop} (ok:(X.wish E).Ok):X.Ok:=
 ⟨ok.mod,ok.kind,ok.glob,ok.blt,ok.above,ok.inj,ok.has,ok.cab,ok.hd,ok.frames,ok.stk,ok.exf,ok.bs,ok.bsz,ok.noex,ok.exfs,ok.funs,ok.frf⟩
section
variable {X:Cx} {pins:List (Addr × Obj)} {σ : St} {H:Hp} {s:Shared} {E:Value->Shared->Prop}
theorem Inv.wish (I:Inv X pins σ H s) (E:Value->Shared->Prop):Inv (X.wish E) pins σ H s:=⟨I.ok.wish E,I.os,I.bare,I.base,I.loc,I.cell,I.free,I.freeC,I.pin,I.hok,I.len⟩
theorem Inv.unwish (I:Inv (X.wish E) pins σ H s):Inv X pins σ H s:=⟨I.ok.unwish,I.os,I.bare,I.base,I.loc,I.cell,I.free,I.freeC,I.pin,I.hok,I.len⟩
theorem SP.unwish {D:Ends} {f:Flow} {s':Shared} (h:SP (X.wish E) pins D f s'):SP X pins D f s':=by
 cases f with
 | next=>obtain⟨σ',H',I,q⟩:=h; exact⟨σ',H',I.unwish,q⟩
 | brk=>obtain⟨σ',H',I,q⟩:=h; exact⟨σ',H',I.unwish,q⟩
 | cont=>obtain⟨σ',H',I,q⟩:=h; exact⟨σ',H',I.unwish,q⟩
 | ret u=>obtain⟨v,σ',H',I,r,q⟩:=h; exact⟨v,σ',H',I.unwish,r,q⟩
end
section
variable {X:Cx} {st:Stmt} {rest:List Stmt} {t u:TS} {e:Expr} {te:TE} {pos:Pos}
def B7:TS:=fun D σ H=>D.nx σ H
def hW (t u:TS):TS:=fun D σ H=>t { D with nx:=u D } σ H
theorem aR:PSs X [] B7:=fun _ _ σ H _ I h=>wpAny_execs_nil ⟨σ,H,I,h⟩
theorem aA (h1:PS X st t) (h2:PSs X rest u):PSs X (st::rest) (hW t u):=by
 intro pins s σ H D I h
 refine wpAny_execs_cons (thn (h1 pins s σ H { D with nx:=u D } I h) fun f s1 q=>?_)
 cases f with
 | next=>
  obtain⟨σ',H',I',q⟩:=q
  exact h2 pins s1 σ' H' D I' q
 | ret v=>exact q
 | brk=>exact q
 | cont=>exact q
theorem aE (h1:PS X st t):PSs X [st] t:=by
 intro pins s σ H D I h
 refine wpAny_execs_cons (thn (h1 pins s σ H D I h) fun f s1 q=>?_)
 cases f with
 | next=>exact wpAny_execs_nil q
 | ret v=>exact q
 | brk=>exact q
 | cont=>exact q
theorem Inv.quiet {pins:List (Addr × Obj)} {σ : St} {H:Hp} {s:Shared} (I:Inv X pins σ H s):interactive X.env=false:=by simp [interactive,I.ok.kind]
def Go (te:TE):TS:=fun D σ H=>te σ H fun _ H1=>D.nx σ H1
theorem aT (he:PE X e te) (hs:swapsWith e none pos.line X.env=pure false:=by rfl):PS X (.Expr e pos) (Go te):=by
 intro pins s σ H D I h
 exact wpAny_Expr_any (thn (he pins s σ H _ I h) fun v s1 ⟨x,H1,I1,r1,q1⟩=>⟨σ,H1,I1,q1⟩) I.quiet hs
def tRet (te:TE):TS:=fun D σ H=>te σ H D.rt
theorem bB (he:PE X e te):PS X (.Return (some e) pos) (tRet te):=by
 intro pins s σ H D I h
 exact wpAny_Return_some (thn (he pins s σ H _ I h) fun v s1 ⟨x,H1,I1,r1,q1⟩=>⟨x,σ,H1,I1,r1,q1⟩)
def Dz (c:TT) (t u:TS):TS:=fun D σ H=>c σ H fun b H1=>if b=true then t D σ H1 else u D σ H1
theorem bG {c:Expr} {a b:List Stmt} {tc:TT} (hc:PT X c tc) (ha:PSs X a t) (hb:PSs X b u):PS X (.If c a b pos) (Dz tc t u):=by
 intro pins s σ H D I h
 refine wpAny_If (thn (hc pins s σ H _ I h) fun d s1 zQq=>?_)
 obtain⟨H1,I1,q1⟩:=zQq
 cases d with
 | true=>exact ha pins s1 σ H1 D I1 q1
 | false=>exact hb pins s1 σ H1 D I1 q1
end
noncomputable abbrev TG:=V->St->Hp->(St->Hp->Prop)->Prop
noncomputable abbrev TGs:=List V->St->Hp->(St->Hp->Prop)->Prop
def PG (X:Cx) (target:Expr) (t:TG):Prop:=
 ∀ (pins:List (Addr × Obj)) (s:Shared) (σ : St) (H:Hp) (v:V) (u:Value) (Q:St->Hp->Prop),Inv X pins σ H s->bW v u->t v σ H Q->
  wpAny (model X.prog X.w) X.A (assign target X.env u) (fun _ s'=>∃ σ' H',Inv X pins σ' H' s'/\Q σ' H') X.xe s
def PGs (X:Cx) (ts:List Expr) (t:TGs):Prop:=
 ∀ (pins:List (Addr × Obj)) (s:Shared) (σ : St) (H:Hp) (vs:List V) (us:List Value) (Q:St->Hp->Prop),Inv X pins σ H s->bQ vs us->t vs σ H Q->
  wpAny (model X.prog X.w) X.A (assignInOrder ((assignEach ts X.env).map (·.2)) us) (fun _ s'=>∃ σ' H',Inv X pins σ' H' s'/\Q σ' H') X.xe s
noncomputable abbrev TIp:=V->V->Hp->VK->Prop
def PIp (X:Cx) (op:Operator) (t:TIp):Prop:=
 ∀ (pins:List (Addr × Obj)) (s:Shared) (σ : St) (H:Hp) (x y:V) (v u:Value) (Q:VK),Inv X pins σ H s->bW x v->bW y u->t x y H Q->
  wpAny (model X.prog X.w) X.A (inplaceOp op v u) (EP X pins σ Q) X.xe s
section
variable {X:Cx} {pos:Pos}
def cO (i:Nat):TG:=fun v σ H Q=>Q (σ.set i (some v)) H
theorem bI {i:Nat} {x:Str} (hN:X.N.Nodup) (hi:X.N[i]? = some x) (hx:Loc X.env.scope x) (hf:X.fn x=true\/X.env.scope.names.lookup x=some .local:=by first | exact .inl rfl | exact .inr rfl | assumption):PG X (.Name x pos) (cO i):=by
 intro pins s σ H v u Q I r h
 exact wpAny_assign_Name (sI I hN hi hx r (fun s' I'=>⟨_,H,I',h⟩) hf)
def gNil:TGs:=fun vs σ H Q=>vs=[]/\Q σ H
def Ca (t:TG) (u:TGs):TGs:=fun vs σ H Q=>∃ v r,vs=v::r/\t v σ H fun σ' H'=>u r σ' H' Q
theorem CJ:PGs X [] gNil:=by
 intro pins s σ H vs us Q I r h
 obtain⟨e,h⟩:=h
 subst e
 cases r
 exact assignInOrder_nil ⟨σ,H,I,h⟩
theorem mB {e:Expr} {es:List Expr} {t:TG} {u:TGs} (h1:PG X e t) (h2:PGs X es u)
  (hs:(assignEach (e::es) X.env).map (·.2)=assign e X.env::(assignEach es X.env).map (·.2):=by rfl):PGs X (e::es) (Ca t u):=by
 intro pins s σ H vs us Q I r h
 obtain⟨v,vr,e1,h⟩:=h
 subst e1
 cases r with
 | cons r rr=>
  rw[hs]
  refine assignInOrder_cons (thn (h1 pins s σ H _ _ _ I r h) fun _ s1 zQq=>?_)
  obtain⟨σ1,H1,I1,q1⟩:=zQq
  exact h2 pins s1 σ1 H1 _ _ Q I1 rr q1
def Hj (K:PySem.W.Frag) (n:Nat) (t:TGs):TG:=fun v σ H Q=>∃ a xs,v = .ref a/\SqT K H a xs/\xs.length=n/\t xs σ H Q
theorem HJ {es:List Expr} {k:Nat} {t:TGs} {n:Nat} (hc:X.calm=true) (h:PGs X es t)
  (hn:(assignEach es X.env).length=n:=by rfl) (hst:(assignEach es X.env).findIdx? (·.1)=none:=by rfl):PG X (.Tuple es k pos) (Hj X.K n t):=by
 intro pins s σ H v u Q I r hw
 obtain⟨a,xs,e1,hq,hl,hw⟩:=hw
 subst e1
 cases r
 obtain⟨its,rv,ht,hz⟩:=I.tuple hq
 refine assign_Tuple_tuple (I.ok.hd hc) ht (by simp [hn,<- hl,rv.length]) hst fun h' hx=>?_
 have I1:Inv X pins σ H { s with heap:=h' }:=I.kept (t':=s.toks) fun b o e=>hx b o (ne_of_lt (lt_size e)) e
 exact h pins _ σ H xs _ Q I1 (by simpa using rv) hw
def Fm (te:TE) (g:TG):TS:=fun D σ H=>te σ H fun x H1=>g x σ H1 D.nx
theorem aW {i:Nat} {x:Str} {e:Expr} {te:TE} {pos':Pos} (hN:X.N.Nodup) (hi:X.N[i]? = some x) (hx:Loc X.env.scope x) (he:PE X e te) (hs:swapsWith e (some (.Name x pos')) pos.line X.env=pure false:=by rfl) (hf:X.fn x=true\/X.env.scope.names.lookup x=some .local:=by first | exact .inl rfl | exact .inr rfl | assumption) :
  PS X (.Assign [.Name x pos'] e pos) (Fm te (cO i)):=by
 intro pins s σ H D I h
 refine wpAny_Assign_Name (thn (he pins s σ H _ I h) fun v s1 zQq=>?_) hs
 obtain⟨y,H1,I1,r1,q1⟩:=zQq
 exact sI I1 hN hi hx r1 (fun s2 I2=>⟨_,H1,I2,q1⟩) hf
def tAug (i:Nat) (te:TE) (ti:TIp):TS:=fun D σ H=>∃ x,σ[i]? = some (some x)/\te σ H fun y H1=>ti x y H1 fun z H2=>D.nx (σ.set i (some z)) H2
theorem HG {i:Nat} {x:Str} {e:Expr} {te:TE} {op:Operator} {ti:TIp} {pos':Pos} (hN:X.N.Nodup) (hi:X.N[i]? = some x) (hx:Loc X.env.scope x) (he:PE X e te) (ho:PIp X op ti) (hf:X.fn x=true\/X.env.scope.names.lookup x=some .local:=by first | exact .inl rfl | exact .inr rfl | assumption) :
  PS X (.AugAssign (.Name x pos') op e pos) (tAug i te ti):=by
 intro pins s σ H D I h
 obtain⟨v,e1,h⟩:=h
 obtain⟨m,hn,hl⟩:=I.loc
 have vis:Vis X.env.scope x:=by rcases hx with k | k; exact .inl k; exact .inr (.inl k)
 obtain⟨u,r,l⟩:=hl i x v hi e1 vis
 refine wpAny_AugAssign_Name ?_
 have go:wpAny (model X.prog X.w) X.A (eval e X.env) (fun w s₂=>wpAny (model X.prog X.w) X.A (inplaceOp op u w) (fun r s₃=>wpAny (model X.prog X.w) X.A (storeName X.env x r) (fun _=>SP X pins D .next) X.xe s₃) X.xe s₂) X.xe s:=by
  refine thn (he pins s σ H _ I h) fun w s1 zQq=>?_
  obtain⟨y,H1,I1,r1,q1⟩:=zQq
  refine thn (ho pins s1 σ H1 v y u w _ I1 r r1 q1) fun z s2 zQq=>?_
  obtain⟨zv,H2,I2,r2,q2⟩:=zQq
  exact sI I2 hN hi hx r2 (fun s3 I3=>⟨_,H2,I3,q2⟩) hf
 rcases l with ⟨hk,hm⟩ | ⟨hk,c,hc,hcell⟩
 ·exact wpAny_loadName_local I.ok.kind hk hn hm go
 ·rcases hk with hk | hk
  ·exact wpAny_loadName_cell I.ok.kind hk hc hcell go
  ·rcases hx with k | k
   ·have:X.env.scope.names.lookup x=some .free:=hk
    rw[k]at this; cases this
   ·have:X.env.scope.names.lookup x=some .free:=hk
    rw[k]at this; cases this
def ipI (f:Int->Int->Int):TIp:=fun x y H Q=>∃ i j,x = .int i/\y = .int j/\Q (.int (f i j)) H
theorem Hg:PIp X .Sub (ipI fun i j=>i - j):=by
 intro pins s σ H x y v u Q I r1 r2 h
 obtain⟨i,j,e1,e2,q⟩:=h
 subst e1; subst e2
 obtain⟨t,rfl⟩:=r1
 obtain⟨t',rfl⟩:=r2
 exact isub_int ⟨.int _,H,I.tok _,⟨_,rfl⟩,q⟩
end
section
variable {X:Cx} {pos:Pos}
def G5 (c:TT) (tb:TS):TS:=fun D σ H=>∃ W:Nat->St->Hp->Prop,(∃ m,W m σ H)/\∀ m σ H,W m σ H->
 c σ H fun b H1=>if b=true then ∃ N:St->Hp->Prop,(∀ σ' H',N σ' H'->∃ m',m'<m/\W m' σ' H')/\tb { D with nx:=N,ct:=N,bk:=D.nx } σ H1 else D.nx σ H1
theorem zZ {c:Expr} {body:List Stmt} {tc:TT} {tb:TS} (hp:PassesOwn (model X.prog X.w) X.A X.env X.xe) (hc:PT X c tc) (hb:PSs X body tb):PS X (.While c body [] pos) (G5 tc tb):=by
 intro pins s σ H D I h
 obtain⟨W,⟨m0,w0⟩,turn⟩:=h
 refine wpAny_While (codeAny_whileLoop (fun n s'=>∃ σ' H',Inv X pins σ' H' s'/\W n σ' H') ?_ m0 ⟨σ,H,I,w0⟩)
 rintro n s1 ⟨σ1,H1,I1,w1⟩
 refine wpAny_passesOwn hp (thn (hc pins s1 σ1 H1 _ I1 (turn n σ1 H1 w1)) fun b s2 zQq=>?_)
 obtain⟨H2,I2,q2⟩:=zQq
 cases b with
 | true=>
  obtain⟨N,hN,q2⟩:=q2
  rw[if_pos rfl]
  refine wpAny_passesOwn hp (thn (hb pins s2 σ1 H2 _ I2 q2) fun f s3 q3=>?_)
  cases f with
  | next=>
   obtain⟨σ3,H3,I3,n3⟩:=q3
   obtain⟨m',hm,w3⟩:=hN σ3 H3 n3
   exact⟨m',hm,σ3,H3,I3,w3⟩
  | cont=>
   obtain⟨σ3,H3,I3,n3⟩:=q3
   obtain⟨m',hm,w3⟩:=hN σ3 H3 n3
   exact⟨m',hm,σ3,H3,I3,w3⟩
  | brk=>exact q3
  | ret v=>exact q3
 | false=>
  rw[if_neg Bool.false_ne_true]
  exact wpAny_execs_nil ⟨σ1,H2,I2,q2⟩
end
structure It where
 go:Nat->Hp->Prop
 yld:Nat->Hp->V->Hp->Prop
 stop:Nat->Hp->Prop
def rO (X:Cx) (pins:List (Addr × Obj)) (H:Hp) (b:Addr):Prop:=
 H b=none/\b≠X.env.locals/\b ∉ X.fs/\(b∈X.ex\/X.s₀.heap.objs.size<=b)/\(∀ x c,X.env.cells.lookup x=some c->c≠b)/\∀ p∈X.pn++pins,p.1≠b
theorem Inv.fpOk {X:Cx} {pins:List (Addr × Obj)} {σ : St} {H H':Hp} {s:Shared} {b:Addr} (I:Inv X pins σ H s) (hb:s.heap.objs.size<=b) (hn:H' b=none):rO X pins H' b:=by
 refine⟨hn,ne_of_gt (lt_of_lt_of_le I.lt hb),I.nofs hb,.inr (le_trans I.sz hb),fun x c e z=>?_,fun p hp z=>?_⟩
 ·obtain⟨v,q⟩:=I.cell x c e
  exact absurd (lt_of_lt_of_le q.lt (by rw[z]; exact hb)) (lt_irrefl _)
 ·exact absurd (lt_of_lt_of_le (lt_size (I.pin p hp).1) (by rw[z]; exact hb)) (lt_irrefl _)
structure Turn (P:Program) (w:World) (K:PySem.W.Frag) (tg:Expr) (J:It) (fp:List Addr) (it:Addr) (tn:Nat->Heap->Prop):Prop where
 mem:it∈fp
 obj:∀ i h,tn i h->∀ b∈fp,∃ o,h.get? b=some o/\∀ v,o.data ≠ .cell v
 keep:∀ i h h',tn i h->(∀ b∈fp,∀ o,h.get? b=some o->h'.get? b=some o)->tn i h'
 item:∀ (X:Cx),X.prog=P->X.w=w->X.K=K->X.calm=true->∀ (i:Nat) (pins:List (Addr × Obj)) (s:Shared) (σ : St) (H:Hp) (E:Value->Shared->Prop),Inv X pins σ H s->(∀ b∈fp,rO X pins H b)->tn i s.heap->J.go i H->
  wpAny (model P w) X.A (pyNext (.ref it)) (fun r s1=>∃ u,r=some u/\
   wpAny (model P w) X.A (letOwnedTupleGo tg (.ref it) u) (fun _ s2=>∃ x H',Inv X pins σ H' s2/\bW x u/\J.yld i H x H'/\tn (i+1) s2.heap/\∀ b∈fp,H' b=none) E s1) E s
 done:∀ (X:Cx),X.prog=P->X.w=w->X.K=K->X.calm=true->∀ (i:Nat) (pins:List (Addr × Obj)) (s:Shared) (σ : St) (H:Hp) (E:Value->Shared->Prop),Inv X pins σ H s->(∀ b∈fp,rO X pins H b)->tn i s.heap->J.stop i H->
  wpAny (model P w) X.A (pyNext (.ref it)) (fun r s1=>r=none/\Inv X pins σ H s1) E s
 self:∀ (A:Around) (i:Nat) (s:Shared) (Q:Value->Shared->Prop) (E:Value->Shared->Prop),tn i s.heap->Q (.ref it) s->wpAny (model P w) A (pyIter (.ref it)) Q E s
noncomputable abbrev TI:=St->Hp->(It->Hp->Prop)->Prop
def PIE (X:Cx) (pins:List (Addr × Obj)) (σ : St) (tg:Expr) (R:It->Hp->Prop) (itv:Value) (s2:Shared):Prop:=
 ∃ (it:Addr) (fp:List Addr) (tn:Nat->Heap->Prop) (J:It) (H':Hp),itv = .ref it/\Inv X pins σ H' s2/\Turn X.prog X.w X.K tg J fp it tn/\tn 0 s2.heap/\(∀ b∈fp,rO X pins H' b)/\R J H'
def PI (X:Cx) (tg iter:Expr) (wi:TI):Prop:=
 ∀ (pins:List (Addr × Obj)) (s:Shared) (σ : St) (H:Hp) (R:It->Hp->Prop),Inv X pins σ H s->wi σ H R->
  wpAny (model X.prog X.w) X.A (eval iter X.env) (fun v s1=>wpAny (model X.prog X.w) X.A (pyIter v) (PIE X pins σ tg R) X.xe s1) X.xe s
theorem CY {M:Model} {A:Around} {E:Value->Shared->Prop} {s:Shared} {tg:Expr} {it:Addr} {u:Value} {o:Obj} {n:String} {vs:Array Value} {Q:Unit->Shared->Prop} (ho:s.heap.get? it=some o) (hc:o.cls = .type n) (hd:o.data = .fields vs)
  (hn:["enumerate","zip","dict_itemiterator","dict_reverseitemiterator","odict_iterator","itertools.zip_longest","itertools.pairwise"].contains n=false) (hQ:Q () s):wpAny M A (letOwnedTupleGo tg (.ref it) u) Q E s:=by
 unfold letOwnedTupleGo
 cases tg <;> first
  | exact wpAny_pure hQ
  | (cases u <;> first
    | exact wpAny_pure hQ
    | (refine wpAny_bind (wpAny_load ho ?_)
       rw[hc,hd]
       show wpAny M A (if (["enumerate","zip","dict_itemiterator","dict_reverseitemiterator","odict_iterator","itertools.zip_longest","itertools.pairwise"].contains n && vs[0]? == some (rawInt _))=true then _ else _) Q E s
       rw[if_neg (by intro h; rw[hn,Bool.false_and]at h; cases h)]
       exact wpAny_pure hQ))
noncomputable def Itl (K:PySem.W.Frag) (a:Addr):It:=
 ⟨fun i H=>∃ xs x,SqL K H a xs/\xs[i]? = some x,fun i H x H'=>H'=H/\∀ xs,SqL K H a xs->xs[i]? = some x,fun i H=>∃ xs,SqL K H a xs/\xs.length<=i⟩
noncomputable def Itt (K:PySem.W.Frag) (a:Addr):It:=
 ⟨fun i H=>∃ xs x,SqT K H a xs/\xs[i]? = some x,fun i H x H'=>H'=H/\∀ xs,SqT K H a xs->xs[i]? = some x,fun i H=>∃ xs,SqT K H a xs/\xs.length<=i⟩
noncomputable def Itr (lo:Int) (n:Nat):It:=⟨fun i _=>i<n,fun i H x H'=>H'=H/\x = .int (lo+i),fun i _=>n<=i⟩
theorem Cr {P:Program} {w:World} {K:PySem.W.Frag} {tg:Expr} (a it:Addr):Turn P w K tg (Itl K a) [it] it (fun i h=>h.IsListIter it a i) where
 mem:=by simp
 obj:=fun i h st b hb=>by
  have e:b=it:=by simpa using hb
  subst e
  obtain⟨o,e,c,d⟩:=st
  exact⟨o,e,fun v z=>by rw[d]at z; cases z⟩
 keep:=fun i h h' st k=>st.at fun o e=>k it (by simp) o e
 item:=by
  intro X hP hw hK hc i pins s σ H E I hf st hg
  subst hP hw hK
  obtain⟨xs,x,hq,hx⟩:=hg
  obtain⟨its,rv,p,hz⟩:=I.list hq
  obtain⟨u,hu,ru⟩:=rv.get hx
  obtain⟨f0,f1,f2,f3,f4,f5⟩:=hf it (by simp)
  refine wpAny_pyNext_list_item st p.isList (x:=u) (by simpa using hu) fun h' st' sb=>?_
  have I1:Inv X pins σ H { s with heap:=h' }:=I.turned (t':=s.toks) (fun b o hb e=>(sb.2 b hb).trans e) f0 f1 f3 f4 f5
  obtain⟨o,e,c,d⟩:=id st'
  exact⟨u,rfl,CY (s:={ s with heap:=h' }) e c d (by decide) ⟨x,H,I1,ru,⟨rfl,fun ys hy=>by rw[I.list_inj hy hq]; exact hx⟩,st',fun b hb=>(hf b hb).1⟩⟩
 done:=by
  intro X hP hw hK hc i pins s σ H E I hf st hg
  subst hP hw hK
  obtain⟨xs,hq,hx⟩:=hg
  obtain⟨its,rv,p,hz⟩:=I.list hq
  obtain⟨f0,f1,f2,f3,f4,f5⟩:=hf it (by simp)
  have hl:=rv.length
  exact wpAny_pyNext_list_end (I.ok.hd hc) st p.isList (by simp; omega) fun h' eb=>⟨rfl,I.turned (t':=s.toks) (fun b o hb e=>eb b o hb e) f0 f1 f3 f4 f5⟩
 self:=fun _ _ _ _ _ st h=>wpAny_pyIter_listiter st h
theorem Av {P:Program} {w:World} {K:PySem.W.Frag} {tg:Expr} (a it:Addr):Turn P w K tg (Itt K a) [it] it (fun i h=>h.IsTupleIter it a i) where
 mem:=by simp
 obj:=fun i h st b hb=>by
  have e:b=it:=by simpa using hb
  subst e
  obtain⟨o,e,c,d⟩:=st
  exact⟨o,e,fun v z=>by rw[d]at z; cases z⟩
 keep:=fun i h h' st k=>st.at fun o e=>k it (by simp) o e
 item:=by
  intro X hP hw hK hc i pins s σ H E I hf st hg
  subst hP hw hK
  obtain⟨xs,x,hq,hx⟩:=hg
  obtain⟨its,rv,p,hz⟩:=I.tuple hq
  obtain⟨u,hu,ru⟩:=rv.get hx
  obtain⟨f0,f1,f2,f3,f4,f5⟩:=hf it (by simp)
  refine wpAny_pyNext_tuple_item st (show s.heap.IsTuple a its.toArray from p) (x:=u) (by simpa using hu) fun h' st' sb=>?_
  have I1:Inv X pins σ H { s with heap:=h' }:=I.turned (t':=s.toks) (fun b o hb e=>(sb.2 b hb).trans e) f0 f1 f3 f4 f5
  obtain⟨o,e,c,d⟩:=id st'
  exact⟨u,rfl,CY (s:={ s with heap:=h' }) e c d (by decide) ⟨x,H,I1,ru,⟨rfl,fun ys hy=>by rw[I.tuple_inj hy hq]; exact hx⟩,st',fun b hb=>(hf b hb).1⟩⟩
 done:=by
  intro X hP hw hK hc i pins s σ H E I hf st hg
  subst hP hw hK
  obtain⟨xs,hq,hx⟩:=hg
  obtain⟨its,rv,p,hz⟩:=I.tuple hq
  obtain⟨f0,f1,f2,f3,f4,f5⟩:=hf it (by simp)
  have hl:=rv.length
  exact wpAny_pyNext_tuple_end (I.ok.hd hc) st (show s.heap.IsTuple a its.toArray from p) (by simp; omega) fun h' eb=>⟨rfl,I.turned (t':=s.toks) (fun b o hb e=>eb b o hb e) f0 f1 f3 f4 f5⟩
 self:=fun _ _ _ _ _ st h=>wpAny_pyIter_tupleiter st h
theorem Aw {P:Program} {w:World} {K:PySem.W.Frag} {tg:Expr} (it:Addr) (lo:Int) (n:Nat):Turn P w K tg (Itr lo n) [it] it (fun i h=>IsRangeIter h it (lo+(i:Nat) * 1) ((n:Int) - (i:Nat)) 1) where
 mem:=by simp
 obj:=fun i h st b hb=>by
  have e:b=it:=by simpa using hb
  subst e
  exact⟨_,st,fun v z=>by
   have z':Data.fields _=Data.cell v:=z
   cases z'⟩
 keep:=fun i h h' st k=>k it (by simp) _ st
 item:=by
  intro X hP hw hK hc i pins s σ H E I hf st hg
  subst hP hw hK
  obtain⟨f0,f1,f2,f3,f4,f5⟩:=hf it (by simp)
  have W:=Walks.range (prog:=X.prog) (w:=X.w) (I.ok.hd hc) it lo 1 n
  refine W.item i s _ _ hg st fun v h' tk hv st' kk=>?_
  obtain⟨t,rfl⟩:=hv
  have I1:Inv X pins σ H { s with heap:=h',toks:=tk }:=I.turned (fun b o hb e=>kk b o (by simpa using hb) e) f0 f1 f3 f4 f5
  refine⟨_,rfl,CY (s:={ s with heap:=h',toks:=tk }) (n:="range_iterator") st' rfl rfl (by decide) ⟨.int (lo+i),H,I1,⟨t,?_⟩,⟨rfl,rfl⟩,st',fun b hb=>(hf b hb).1⟩⟩
  rw[Int.mul_one]
 done:=by
  intro X hP hw hK hc i pins s σ H E I hf st hg
  subst hP hw hK
  obtain⟨f0,f1,f2,f3,f4,f5⟩:=hf it (by simp)
  exact wpAny_pyNext_range_end (I.ok.hd hc) st (by have:n<=i:=hg; omega) fun h' eb=>⟨rfl,I.turned (t':=s.toks) (fun b o hb e=>eb b o hb e) f0 f1 f3 f4 f5⟩
 self:=fun _ _ _ _ _ st h=>wpAny_pyIter_rangeiter st h
section
variable {X:Cx} {tg:Expr}
def kC (K:PySem.W.Frag) (tl:TE):TI:=fun σ H R=>tl σ H fun x H1=>∃ a,x = .ref a/\(∃ xs,SqL K H1 a xs)/\R (Itl K a) H1
def iTup (K:PySem.W.Frag) (tl:TE):TI:=fun σ H R=>tl σ H fun x H1=>∃ a,x = .ref a/\(∃ xs,SqT K H1 a xs)/\R (Itt K a) H1
theorem F1 {l:Expr} {tl:TE} (hl:PE X l tl):PI X tg l (kC X.K tl):=by
 intro pins s σ H R I h
 refine thn (hl pins s σ H _ I h) fun v s1 zQq=>?_
 obtain⟨x,H1,I1,r1,q1⟩:=zQq
 obtain⟨a,e,⟨xs,hq⟩,q⟩:=q1
 subst e
 cases r1
 obtain⟨its,rv,p,hz⟩:=I1.list hq
 refine wpAny_pyIter_list p.isList ?_
 refine⟨s1.heap.objs.size,[s1.heap.objs.size],_,_,H1,rfl,I1.kept (t':=s1.toks) fun b o e=>get?_push_of_some _ e,Cr a _,⟨_,get?_push_size _ rfl,rfl,rfl⟩,fun b hb=>?_,q⟩
 have e:b=s1.heap.objs.size:=by simpa using hb
 subst e
 exact I1.fpOk (le_refl _) (I1.hok.fresh (le_refl _))
theorem HH {l:Expr} {tl:TE} (hl:PE X l tl):PI X tg l (iTup X.K tl):=by
 intro pins s σ H R I h
 refine thn (hl pins s σ H _ I h) fun v s1 zQq=>?_
 obtain⟨x,H1,I1,r1,q1⟩:=zQq
 obtain⟨a,e,⟨xs,hq⟩,q⟩:=q1
 subst e
 cases r1
 obtain⟨its,rv,p,hz⟩:=I1.tuple hq
 refine wpAny_pyIter_tuple (show s1.heap.IsTuple a its.toArray from p) ?_
 refine⟨s1.heap.objs.size,[s1.heap.objs.size],_,_,H1,rfl,I1.kept (t':=s1.toks) fun b o e=>get?_push_of_some _ e,Av a _,⟨_,get?_push_size _ rfl,rfl,rfl⟩,fun b hb=>?_,q⟩
 have e:b=s1.heap.objs.size:=by simpa using hb
 subst e
 exact I1.fpOk (le_refl _) (I1.hok.fresh (le_refl _))
theorem EK {pins:List (Addr × Obj)} {σ : St} {H:Hp} {s:Shared} {R:It->Hp->Prop} {E:Value->Shared->Prop} {lo hi:Int} {t u v:Tok} {tk:Nat} (I:Inv X pins σ H s) (h1:-(2 ^ 62)<=lo) (h2:lo<2 ^ 62) (h3:-(2 ^ 62)<=hi) (h4:hi<2 ^ 62)
  (q:R (Itr lo (hi - lo).toNat) H):wpAny (model X.prog X.w) X.A (pyIter (.ref s.heap.objs.size)) (PIE X pins σ tg R) E { s with heap:=s.heap.push { cls:=.type "range",data:=.fields #[.int lo t,.int hi u,.int 1 v] },toks:=tk }:=by
 refine wpAny_pyIter_range (IsRange.new ..) (small_one h1 h2 h3 h4) ?_
 have I1:Inv X pins σ H { s with heap:=s.heap.push { cls:=.type "range",data:=.fields #[.int lo t,.int hi u,.int 1 v] },toks:=tk }:=I.kept fun b o e=>get?_push_of_some _ e
 refine⟨(s.heap.push { cls:=.type "range",data:=.fields #[.int lo t,.int hi u,.int 1 v] }).objs.size,[(s.heap.push { cls:=.type "range",data:=.fields #[.int lo t,.int hi u,.int 1 v] }).objs.size],_,_,H,rfl,
  I1.kept (t':=tk) fun b o e=>get?_push_of_some _ e,Aw _ lo (hi - lo).toNat,?_,fun b hb=>?_,q⟩
 ·have e1:lo+((0:Nat):Int) * 1=lo:=by simp
  have e2:(((hi - lo).toNat:Nat):Int) - ((0:Nat):Int)=Builtin.Range.rangeSize lo hi 1:=by rw[rangeSize_one]; split <;> omega
  show IsRangeIter _ _ (lo+((0:Nat):Int) * 1) ((((hi - lo).toNat:Nat):Int) - ((0:Nat):Int)) 1
  rw[e1,e2]
  exact get?_push_size _ rfl
 ·have e:b=(s.heap.push { cls:=.type "range",data:=.fields #[.int lo t,.int hi u,.int 1 v] }).objs.size:=by simpa using hb
  subst e
  exact I1.fpOk (le_refl _) (I1.hok.fresh (le_refl _))
def iRng1 (ta:TA):TI:=fun σ H R=>ta σ H fun vs H1=>∃ j:Int,vs=[.int j]/\-(2 ^ 62)<=j/\j<2 ^ 62/\R (Itr 0 j.toNat) H1
theorem qH {a:Expr} {ta:TA} {p pos:Pos} (hg:Gl X "range") (hm:X.mg "range" = none) (ha:PA X [a] ta) (hs:starEach [a] X.env=[(false,eval a X.env)]:=by rfl):PI X tg (.Call (.Name "range" p) [a] [] pos) (iRng1 ta):=by
 intro pins s σ H R I h
 refine Call_ (nV I hg hm boot_range (PyProof.Rows.callWith_type1 (thn (ha pos pins s σ H _ I h) fun us s1 zQq=>?_) hs rfl))
 obtain⟨vs,H1,I1,r1,q1⟩:=zQq
 obtain⟨j,e,q1,q2,q⟩:=q1
 subst e
 cases r1 with
 | cons r rr=>
  cases rr
  obtain⟨t,rfl⟩:=r
  exact call_range_1 (EK I1 (by omega) (by omega) q1 q2 (by simpa using q))
def Ay (wi:TI) (g:TG) (tb:TS):TS:=fun D σ H=>wi σ H fun J H1=>∃ W:Nat->Nat->St->Hp->Prop,(∃ m,W 0 m σ H1)/\∀ i m σ H,W i m σ H->
 (J.stop i H/\D.nx σ H)\/(J.go i H/\∃ N:St->Hp->Prop,(∀ σ' H',N σ' H'->∃ m',m'<m/\W (i+1) m' σ' H')/\∀ x H',J.yld i H x H'->g x σ H' fun σ2 H2=>tb { D with nx:=N,ct:=N,bk:=D.nx } σ2 H2)
noncomputable def tT (fp:List Addr) (h:Heap):List (Addr × Obj):=fp.filterMap fun b=>(h.get? b).map fun o=>(b,o)
theorem lE {fp:List Addr} {h:Heap} {b:Addr} {o:Obj} (hb:b∈fp) (e:h.get? b=some o):(b,o)∈tT fp h:=List.mem_filterMap.mpr ⟨b,hb,by rw[e]; rfl⟩
theorem DH {fp:List Addr} {h:Heap} {p:Addr × Obj} (hp:p∈tT fp h):p.1∈fp/\h.get? p.1=some p.2:=by
 obtain⟨b,hb,e⟩:=List.mem_filterMap.mp hp
 cases q:h.get? b with
 | none=>rw[q]at e; cases e
 | some o=>
  rw[q]at e
  have e':(b,o)=p:=Option.some.inj e
  subst e'
  exact⟨hb,q⟩
theorem Inv.pinned {pins:List (Addr × Obj)} {σ : St} {H:Hp} {s:Shared} {fp:List Addr} (I:Inv X pins σ H s) (hf:∀ b∈fp,rO X pins H b) (ho:∀ b∈fp,∃ o,s.heap.get? b=some o/\∀ v,o.data ≠ .cell v):Inv X (pins++tT fp s.heap) σ H s:=
 I.pins_of fun p hp=>(mem_append.mp hp).elim (fun z=>I.pin p (mem_append_right _ z)) fun z=>by
  obtain⟨hb,e⟩:=DH z
  obtain⟨f0,f1,f2,_⟩:=hf p.1 hb
  obtain⟨o,e',d⟩:=ho p.1 hb
  rw[e]at e'; cases e'
  exact⟨e,f0,f1,f2,d⟩
theorem Inv.unpinned {pins pl:List (Addr × Obj)} {σ : St} {H:Hp} {s:Shared} (I:Inv X (pins++pl) σ H s):Inv X pins σ H s:=I.pins_of fun p hp=>I.pin p (mem_append_right _ (mem_append_left _ hp))
theorem fQ {iter:Expr} {body:List Stmt} {wi:TI} {g:TG} {tb:TS} {pos:Pos} (hp:PassesOwn (model X.prog X.w) X.A X.env X.xe) (hc:X.calm=true) (hi:PI X tg iter wi) (hg:PG X tg g) (hb:PSs X body tb)
  (hs:∀ x,foldedSetIterable iter X.env x=pure x:=by intro _; rfl):PS X (.For tg iter body [] pos) (Ay wi g tb):=by
 intro pins s σ H D I h
 refine wpAny_For (thn (hi pins s σ H _ I h) fun v s1 h1=>thn h1 fun itv s2 h2=>?_) hs
 obtain⟨it,fp,tn,J,H2,e,I2,T,st2,f2,W,⟨m0,w0⟩,turn⟩:=h2
 subst e
 -- what stays true of the iterator's objects through the loop
 have stat:∀ {H':Hp},(∀ b∈fp,H' b=none)->∀ b∈fp,rO X pins H' b:=fun hn b hb=>⟨hn b hb,(f2 b hb).2⟩
 refine codeAny_forLoop_any (fun n s'=>∃ i σ' H',Inv X pins σ' H' s'/\tn i s'.heap/\(∀ b∈fp,H' b=none)/\W i n σ' H') ?_ m0 ⟨0,σ,H2,I2,st2,fun b hb=>(f2 b hb).1,w0⟩
 rintro n s3 ⟨i,σ3,H3,I3,st3,fr3,w3⟩
 rcases turn i n σ3 H3 w3 with ⟨stop,qn⟩ | ⟨go,N,hN,step⟩
 ·refine wpAny_passesOwn hp (thn (T.done X rfl rfl rfl hc i pins s3 σ3 H3 X.xe I3 (stat fr3) st3 stop) fun r s4 zQq=>?_)
  obtain⟨hr,I4⟩:=zQq
  subst hr
  exact wpAny_execs_nil ⟨σ3,H3,I4,qn⟩
 ·refine wpAny_passesOwn hp (thn (T.item X rfl rfl rfl hc i pins s3 σ3 H3 X.xe I3 (stat fr3) st3 go) fun r s4 zQq=>?_)
  obtain⟨u,hr,h4⟩:=zQq
  subst hr
  refine wpAny_passesOwn hp (thn h4 fun _ s5 zQq=>?_)
  obtain⟨x,H5,I5,r5,y5,st5,fr5⟩:=zQq
  have I5':=I5.pinned (stat fr5) (T.obj _ _ st5)
  refine wpAny_passesOwn hp (thn (hg _ s5 σ3 H5 x u _ I5' r5 (step x H5 y5)) fun _ s6 zQq=>?_)
  obtain⟨σ6,H6,I6,q6⟩:=zQq
  refine wpAny_passesOwn hp (thn (hb _ s6 σ6 H6 _ I6 q6) fun f s7 q7=>?_)
  have again:∀ {σ7:St} {H7:Hp},Inv X (pins++tT fp s5.heap) σ7 H7 s7->N σ7 H7->∃ m,m<n/\∃ i σ' H',Inv X pins σ' H' s7/\tn i s7.heap/\(∀ b∈fp,H' b=none)/\W i m σ' H':=fun {σ7 H7} I7 n7=>by
   obtain⟨m',hm,w7⟩:=hN σ7 H7 n7
   refine⟨m',hm,i+1,σ7,H7,I7.unpinned,T.keep _ _ _ st5 fun b hb o e=>(I7.pin (b,o) (mem_append_right _ (mem_append_right _ (lE hb e)))).1,fun b hb=>?_,w7⟩
   obtain⟨o,e,d⟩:=T.obj _ _ st5 b hb
   exact(I7.pin (b,o) (mem_append_right _ (mem_append_right _ (lE hb e)))).2.1
  cases f with
  | next=>obtain⟨σ7,H7,I7,n7⟩:=q7; exact again I7 n7
  | cont=>obtain⟨σ7,H7,I7,n7⟩:=q7; exact again I7 n7
  | brk=>obtain⟨σ7,H7,I7,q7⟩:=q7; exact⟨σ7,H7,I7.unpinned,q7⟩
  | ret v=>obtain⟨x7,σ7,H7,I7,r7,q7⟩:=q7; exact⟨x7,σ7,H7,I7.unpinned,r7,q7⟩
end
noncomputable abbrev R2:=V->V->Hp->VK->Prop
def OpR (X:Cx) (f:Value->Value->Sem Value) (r:R2):Prop:=
 ∀ (pins:List (Addr × Obj)) (s:Shared) (σ : St) (H:Hp) (x y:V) (v u:Value) (Q:VK),Inv X pins σ H s->bW x v->bW y u->r x y H Q->
  wpAny (model X.prog X.w) X.A (f v u) (EP X pins σ Q) X.xe s
def UnR (X:Cx) (f:Value->Sem Value) (r:V->Hp->VK->Prop):Prop:=
 ∀ (pins:List (Addr × Obj)) (s:Shared) (σ : St) (H:Hp) (x:V) (v:Value) (Q:VK),Inv X pins σ H s->bW x v->r x H Q->
  wpAny (model X.prog X.w) X.A (f v) (EP X pins σ Q) X.xe s
def eY (X:Cx) (f:Value) (r:List V->Hp->VK->Prop):Prop:=
 ∀ (pins:List (Addr × Obj)) (s:Shared) (σ : St) (H:Hp) (xs:List V) (us:List Value) (Q:VK),Inv X pins σ H s->bQ xs us->r xs H Q->
  wpAny (model X.prog X.w) X.A (call f us) (EP X pins σ Q) X.xe s
def TruR (X:Cx) (r:V->Hp->(Bool->Hp->Prop)->Prop):Prop:=
 ∀ (pins:List (Addr × Obj)) (s:Shared) (σ : St) (H:Hp) (x:V) (v:Value) (Q:Bool->Hp->Prop),Inv X pins σ H s->bW x v->r x H Q->
  wpAny (model X.prog X.w) X.A (truthy v) (TP X pins σ Q) X.xe s
def tOp (r:R2) (ta tb:TE):TE:=fun σ H Q=>ta σ H fun x H1=>tb σ H1 fun y H2=>r x y H2 Q
def tUn (r:V->Hp->VK->Prop) (ta:TE):TE:=fun σ H Q=>ta σ H fun x H1=>r x H1 Q
def rI (C:Int->Int->Prop) (g:Int->Int->V):R2:=fun x y H Q=>∃ i j,x = .int i/\y = .int j/\C i j/\Q (g i j) H
def rI0 (g:Int->Int->V):R2:=fun x y H Q=>∃ i j,x = .int i/\y = .int j/\Q (g i j) H
def rU (g:Int->V):V->Hp->VK->Prop:=fun x H Q=>∃ i,x = .int i/\Q (g i) H
section
variable {X:Cx} {a b c:Expr} {ta tb tc:TE} {pos:Pos}
theorem Hv (ha:PE X a ta) (hb:PE X b tb) {pins:List (Addr × Obj)} {s:Shared} {σ : St} {H:Hp} {R:V->V->Hp->Prop} (I:Inv X pins σ H s)
  (h:ta σ H fun x H1=>tb σ H1 fun y H2=>R x y H2) {Q:Value->Shared->Prop} {f:Value->Value->Sem Value}
  (hf:∀ v u s2 x y H2,Inv X pins σ H2 s2->bW x v->bW y u->R x y H2->wpAny (model X.prog X.w) X.A (f v u) Q X.xe s2) :
  wpAny (model X.prog X.w) X.A (eval a X.env) (fun v s₁=>wpAny (model X.prog X.w) X.A (eval b X.env) (fun u s₂=>wpAny (model X.prog X.w) X.A (f v u) Q X.xe s₂) X.xe s₁) X.xe s:=by
 refine thn (ha pins s σ H _ I h) fun v s1 zQq=>?_
 obtain⟨x,H1,I1,r1,q1⟩:=zQq
 refine thn (hb pins s1 σ H1 _ I1 q1) fun u s2 zQq=>?_
 obtain⟨y,H2,I2,r2,q2⟩:=zQq
 exact hf v u s2 x y H2 I2 r1 r2 q2
theorem bJ {op:Operator} {r:R2} (ho:OpR X (binaryOp op) r) (ha:PE X a ta) (hb:PE X b tb):PE X (.BinOp a op b pos) (tOp r ta tb):=by
 intro pins s σ H Q I h
 exact wpAny_BinOp (Hv ha hb I h fun v u s2 x y H2 I2 rx ry q=>ho pins s2 σ H2 x y v u Q I2 rx ry q)
theorem Ed {op:UnaryOp} {r:V->Hp->VK->Prop} (ho:UnR X (unaryOp op) r) (ha:PE X a ta):PE X (.UnaryOp op a pos) (tUn r ta):=by
 intro pins s σ H Q I h
 exact UnaryOp_ (thn (ha pins s σ H _ I h) fun v s1 ⟨x,H1,I1,r1,q1⟩=>ho pins s1 σ H1 x v Q I1 r1 q1)
theorem opI {f:Value->Value->Sem Value} {C:Int->Int->Prop} {g:Int->Int->Int}
  (rule:∀ (i j:Int) (t u:Tok) (s:Shared) (Q:Value->Shared->Prop) (E:Value->Shared->Prop),C i j->Q (.int (g i j) s.toks) { s with toks:=s.toks+1 }->wpAny (model X.prog X.w) X.A (f (.int i t) (.int j u)) Q E s) :
  OpR X f (rI C fun i j=>.int (g i j)):=by
 intro pins s σ H x y v u Q I rx ry h
 obtain⟨i,j,rfl,rfl,hc,q⟩:=h
 obtain⟨t,rfl⟩:=rx
 obtain⟨t',rfl⟩:=ry
 exact rule i j t t' s _ _ hc ⟨.int (g i j),H,I.tok _,⟨_,rfl⟩,q⟩
theorem opI0 {f:Value->Value->Sem Value} {g:Int->Int->Int}
  (rule:∀ (i j:Int) (t u:Tok) (s:Shared) (Q:Value->Shared->Prop) (E:Value->Shared->Prop),Q (.int (g i j) s.toks) { s with toks:=s.toks+1 }->wpAny (model X.prog X.w) X.A (f (.int i t) (.int j u)) Q E s) :
  OpR X f (rI0 fun i j=>.int (g i j)):=by
 intro pins s σ H x y v u Q I rx ry h
 obtain⟨i,j,rfl,rfl,q⟩:=h
 obtain⟨t,rfl⟩:=rx
 obtain⟨t',rfl⟩:=ry
 exact rule i j t t' s _ _ ⟨.int (g i j),H,I.tok _,⟨_,rfl⟩,q⟩
theorem GA {f:Value->Value->Sem Value} {g:Int->Int->Bool}
  (rule:∀ (i j:Int) (t u:Tok) (s:Shared) (Q:Value->Shared->Prop) (E:Value->Shared->Prop),Q (.bool (g i j)) s->wpAny (model X.prog X.w) X.A (f (.int i t) (.int j u)) Q E s) :
  OpR X f (rI0 fun i j=>.bl (g i j)):=by
 intro pins s σ H x y v u Q I rx ry h
 obtain⟨i,j,rfl,rfl,q⟩:=h
 obtain⟨t,rfl⟩:=rx
 obtain⟨t',rfl⟩:=ry
 exact rule i j t t' s _ _ ⟨.bl (g i j),H,I,rfl,q⟩
def CDiv (i j:Int):Prop:=0<j/\j<1073741824
def CPow (i j:Int):Prop:=0<=j/\j<=1000000/\i.natAbs<2 ^ 64
def Hz (i j:Int):Prop:=(-(2 ^ 64)<i/\i<2 ^ 64)\/(-(2 ^ 64)<j/\j<2 ^ 64)
theorem Hz.ok {i j:Int} (h:Hz i j):IntMulOk i j:=by
 rcases h with ⟨h1,h2⟩ | ⟨h1,h2⟩
 ·exact .of_left (intBits_le_64 h1 h2)
 ·exact .of_right (intBits_le_64 h1 h2)
theorem eZ:OpR X (binaryOp .Add) (rI0 fun i j=>.int (i+j)):=opI0 fun _ _ _ _ _ _ _ q=>add_int q
theorem qM:OpR X (binaryOp .Sub) (rI0 fun i j=>.int (i - j)):=opI0 fun _ _ _ _ _ _ _ q=>sub_int q
theorem qN:OpR X (binaryOp .Mult) (rI Hz fun i j=>.int (i * j)):=opI fun _ _ _ _ _ _ _ hc q=>mul_int q hc.ok
theorem yK:OpR X (binaryOp .FloorDiv) (rI CDiv fun i j=>.int (i / j)):=opI fun i j _ _ _ _ _ hc q=>by
 have h1:(0:Int)<j:=hc.1
 have h2:j<1073741824:=hc.2
 exact floordiv_int (by omega) (by rw[Int.fdiv_eq_ediv_of_nonneg i (by omega)]; exact q) (.inl (PyProof.noPylong_small (by omega)))
theorem iP:OpR X (binaryOp .Mod) (rI (fun _ j=>0<j) fun i j=>.int (i % j)):=opI fun i j _ _ _ _ _ hc q=>by
 have h1:(0:Int)<j:=hc
 exact mod_int' (by omega) (by rw[Int.fmod_eq_emod_of_nonneg i (by omega)]; exact q)
theorem El:OpR X (binaryOp .Pow) (rI CPow fun i j=>.int (i ^ j.toNat)):=opI fun _ _ _ _ _ _ _ hc q=>pow_int_small hc.1 hc.2.1 hc.2.2 q
theorem unI {f:Value->Sem Value} {g:Int->Int}
  (rule:∀ (i:Int) (t:Tok) (s:Shared) (Q:Value->Shared->Prop) (E:Value->Shared->Prop),Q (.int (g i) s.toks) { s with toks:=s.toks+1 }->wpAny (model X.prog X.w) X.A (f (.int i t)) Q E s) :
  UnR X f (rU fun i=>.int (g i)):=by
 intro pins s σ H x v Q I rx h
 obtain⟨i,rfl,q⟩:=h
 obtain⟨t,rfl⟩:=rx
 exact rule i t s _ _ ⟨.int (g i),H,I.tok _,⟨_,rfl⟩,q⟩
theorem At:UnR X (unaryOp .USub) (rU fun i=>.int (-i)):=unI fun _ _ _ _ _ q=>neg_int q
end
noncomputable def scal:V->V->Bool
 | .non,.non=>true | .non,.int _=>true | .int _,.non=>true | .non,.bl _=>true | .bl _,.non=>true | .non,.str _=>true | .str _,.non=>true
 | .int _,.int _=>true | .bl _,.bl _=>true | .str _,.str _=>true | .byt _,.byt _=>true
 | .int _,.str _=>true | .str _,.int _=>true | .bl _,.str _=>true | .str _,.bl _=>true
 | _,_=>false
def rEq:R2:=fun x y H Q=>scal x y=true/\Q (.bl (decide (x=y))) H
def rNe:R2:=fun x y H Q=>scal x y=true/\Q (.bl (!decide (x=y))) H
theorem Cg {i j:Int}:decide (V.int i=V.int j)=(i == j):=by
 rw[Bool.eq_iff_iff]
 simp
theorem FR {i j:Bool}:decide (V.bl i=V.bl j)=(i == j):=by
 rw[Bool.eq_iff_iff]
 simp
theorem Cf {i j:Str}:decide (V.str i=V.str j)=(i == j):=by
 rw[Bool.eq_iff_iff]
 simp
theorem Ch {i j:Array UInt8}:decide (V.byt i=V.byt j)=(i.toList == j.toList):=by
 rw[Bool.eq_iff_iff]
 cases i
 cases j
 simp
section
variable {X:Cx} {a b c:Expr} {ta tb tc:TE} {pos:Pos}
theorem bR {pins:List (Addr × Obj)} {σ : St} {H:Hp} {s:Shared} {Q:VK} {k k':Bool} (I:Inv X pins σ H s) (q:Q (.bl k) H) (e:k=k'):EP X pins σ Q (.bool k') s:=by
 subst e
 exact⟨.bl k,H,I,rfl,q⟩
theorem iQ:OpR X (compareOp .Eq) rEq:=by
 intro pins s σ H x y v u Q I rx ry h
 obtain⟨hs,q⟩:=h
 cases x with
 | non=>
  cases rx
  cases y with
  | non=>cases ry; exact PySem.EqNone.eq_none_none (bR I q (by simp))
  | bl j=>cases ry; exact PySem.EqNone.eq_none_bool (bR I q (by simp))
  | int j=>obtain⟨t',rfl⟩:=ry; exact PySem.EqNone.eq_none_int (bR I q (by simp))
  | str j=>obtain⟨t',rfl⟩:=ry; exact PySem.EqNone.eq_none_str (bR I q (by simp))
  | _=>exact absurd (show false=true from hs) Bool.false_ne_true
 | bl i=>
  cases rx
  cases y with
  | non=>cases ry; exact PySem.EqNone.eq_bool_none (bR I q (by simp))
  | bl j=>cases ry; exact eq_bool (bR I q FR)
  | str j=>obtain⟨t',rfl⟩:=ry; exact PySem.EqMixed.eq_bool_str (bR I q (by simp))
  | _=>exact absurd (show false=true from hs) Bool.false_ne_true
 | int i=>
  obtain⟨t,rfl⟩:=rx
  cases y with
  | non=>cases ry; exact PySem.EqNone.eq_int_none (bR I q (by simp))
  | int j=>obtain⟨t',rfl⟩:=ry; exact eq_int (bR I q Cg)
  | str j=>obtain⟨t',rfl⟩:=ry; exact PySem.EqMixed.eq_int_str (bR I q (by simp))
  | _=>exact absurd (show false=true from hs) Bool.false_ne_true
 | str i=>
  obtain⟨t,rfl⟩:=rx
  cases y with
  | non=>cases ry; exact PySem.EqNone.eq_str_none (bR I q (by simp))
  | bl j=>cases ry; exact PySem.EqMixed.eq_str_bool (bR I q (by simp))
  | int j=>obtain⟨t',rfl⟩:=ry; exact PySem.EqMixed.eq_str_int (bR I q (by simp))
  | str j=>obtain⟨t',rfl⟩:=ry; exact eq_str (bR I q Cf)
  | _=>exact absurd (show false=true from hs) Bool.false_ne_true
 | byt i=>
  obtain⟨t,rfl⟩:=rx
  cases y with
  | byt j=>obtain⟨t',rfl⟩:=ry; exact PySem.W.eq_bytes (bR I q Ch)
  | _=>exact absurd (show false=true from hs) Bool.false_ne_true
 | _=>cases y <;> exact absurd (show false=true from hs) Bool.false_ne_true
theorem CM:OpR X (compareOp .NotEq) rNe:=by
 intro pins s σ H x y v u Q I rx ry h
 obtain⟨hs,q⟩:=h
 cases x with
 | non=>
  cases rx
  cases y with
  | non=>cases ry; exact PySem.EqNone.ne_none_none (bR I q (by simp))
  | bl j=>cases ry; exact PySem.EqNone.ne_none_bool (bR I q (by simp))
  | int j=>obtain⟨t',rfl⟩:=ry; exact PySem.EqNone.ne_none_int (bR I q (by simp))
  | str j=>obtain⟨t',rfl⟩:=ry; exact PySem.EqNone.ne_none_str (bR I q (by simp))
  | _=>exact absurd (show false=true from hs) Bool.false_ne_true
 | bl i=>
  cases rx
  cases y with
  | non=>cases ry; exact PySem.EqNone.ne_bool_none (bR I q (by simp))
  | bl j=>cases ry; exact ne_bool (bR I q (congrArg not FR))
  | str j=>obtain⟨t',rfl⟩:=ry; exact PySem.EqMixed.ne_bool_str (bR I q (by simp))
  | _=>exact absurd (show false=true from hs) Bool.false_ne_true
 | int i=>
  obtain⟨t,rfl⟩:=rx
  cases y with
  | non=>cases ry; exact PySem.EqNone.ne_int_none (bR I q (by simp))
  | int j=>obtain⟨t',rfl⟩:=ry; exact ne_int (bR I q (congrArg not Cg))
  | str j=>obtain⟨t',rfl⟩:=ry; exact PySem.EqMixed.ne_int_str (bR I q (by simp))
  | _=>exact absurd (show false=true from hs) Bool.false_ne_true
 | str i=>
  obtain⟨t,rfl⟩:=rx
  cases y with
  | non=>cases ry; exact PySem.EqNone.ne_str_none (bR I q (by simp))
  | bl j=>cases ry; exact PySem.EqMixed.ne_str_bool (bR I q (by simp))
  | int j=>obtain⟨t',rfl⟩:=ry; exact PySem.EqMixed.ne_str_int (bR I q (by simp))
  | str j=>obtain⟨t',rfl⟩:=ry; exact ne_str (bR I q (congrArg not Cf))
  | _=>exact absurd (show false=true from hs) Bool.false_ne_true
 | byt i=>
  obtain⟨t,rfl⟩:=rx
  cases y with
  | byt j=>obtain⟨t',rfl⟩:=ry; exact PySem.W.ne_bytes (bR I q (congrArg not Ch))
  | _=>exact absurd (show false=true from hs) Bool.false_ne_true
 | _=>cases y <;> exact absurd (show false=true from hs) Bool.false_ne_true
theorem CN:OpR X (compareOp .Lt) (rI0 fun i j=>.bl (decide (i<j))):=GA fun _ _ _ _ _ _ _ q=>lt_int q
theorem jZ:OpR X (compareOp .LtE) (rI0 fun i j=>.bl (decide (i<=j))):=GA fun _ _ _ _ _ _ _ q=>le_int q
theorem CO:OpR X (compareOp .Gt) (rI0 fun i j=>.bl (decide (j<i))):=GA fun _ _ _ _ _ _ _ q=>gt_int q
theorem op_ge:OpR X (compareOp .GtE) (rI0 fun i j=>.bl (decide (j<=i))):=GA fun _ _ _ _ _ _ _ q=>ge_int q
theorem C7:OpR X (compareOp .In) (fun x y H Q=>∃ i j,x = .str i/\y = .str j/\Q (.bl (!(Builtin.Str.occurrences j i 0 j.length 1).isEmpty)) H):=by
 intro pins s σ H x y v u Q I rx ry h
 obtain⟨i,j,rfl,rfl,q⟩:=h
 obtain⟨t,rfl⟩:=rx
 obtain⟨t',rfl⟩:=ry
 exact in_str (bR I q rfl)
theorem HN:OpR X (compareOp .Is) (fun x y H Q=>y = .non/\Q (.bl (decide (x = .non))) H):=by
 intro pins s σ H x y v u Q I rx ry h
 obtain⟨rfl,q⟩:=h
 cases ry
 refine is_none_gen (bR I q ?_)
 cases x <;> first
  | (cases rx; rfl)
  | (obtain⟨t,rfl⟩:=rx; rfl)
theorem yH:OpR X (compareOp .IsNot) (fun x y H Q=>y = .non/\Q (.bl (!decide (x = .non))) H):=by
 intro pins s σ H x y v u Q I rx ry h
 obtain⟨rfl,q⟩:=h
 cases ry
 refine isnot_none_gen (bR I q ?_)
 cases x <;> first
  | (cases rx; rfl)
  | (obtain⟨t,rfl⟩:=rx; rfl)
theorem bK (b:Expr) {op:CmpOp} (h:op ≠ .In:=by decide) (h2:op ≠ .NotIn:=by decide):behindInMarks op b=false:=by
 have e1:(op == CmpOp.In)=false:=by cases op <;> first | rfl | exact absurd rfl h
 have e2:(op == CmpOp.NotIn)=false:=by cases op <;> first | rfl | exact absurd rfl h2
 cases b <;> simp [behindInMarks,e1,e2]
theorem i7 {op:CmpOp} {r:R2} (ho:OpR X (compareOp op) r) (ha:PE X a ta) (hb:PE X b tb) (hm:behindInMarks op b=false):PE X (.Compare a [op] [b] pos) (tOp r ta tb):=by
 intro pins s σ H Q I h
 exact wpAny_Compare1 (Hv ha hb I h fun v u s2 x y H2 I2 rx ry q=>ho pins s2 σ H2 x y v u Q I2 rx ry q) hm
def sH (t:TE):TT:=fun σ H Q=>t σ H fun x H'=>∃ k,x = .bl k/\Q k H'
theorem aZ {op:CmpOp} {r:R2} (ho:OpR X (compareOp op) r) (ha:PE X a ta) (hb:PE X b tb) (hm:behindInMarks op b=false):PT X (.Compare a [op] [b] pos) (sH (tOp r ta tb)):=by
 intro pins s σ H Q I h
 refine wpAny_isTrue_Compare1 (thn (ha pins s σ H _ I h) fun v s1 ⟨x,H1,I1,r1,q1⟩=>thn (hb pins s1 σ H1 _ I1 q1) fun u s2 ⟨y,H2,I2,r2,q2⟩=>
  thn (ho pins s2 σ H2 x y v u _ I2 r1 r2 q2) fun c s3 ⟨z,H3,I3,r3,k,e,q3⟩=>?_) hm
 subst e
 cases r3
 exact wpAny_truthy_bool ⟨H3,I3,q3⟩
def D3 (r r':R2) (ta tb tc:TE):TE:=fun σ H Q=>ta σ H fun x H1=>tb σ H1 fun y H2=>r x y H2 fun z H3=>∃ k,z = .bl k/\
 (if k=true then tc σ H3 fun w' H4=>r' y w' H4 Q else Q (.bl false) H3)
theorem tV {op op':CmpOp} {r r':R2} (ho:OpR X (compareOp op) r) (ho':OpR X (compareOp op') r') (ha:PE X a ta) (hb:PE X b tb) (hc:PE X c tc)
  (hm:lastMarks [op,op'] [b,c]=false:=by with_unfolding_all rfl):PE X (.Compare a [op,op'] [b,c] pos) (D3 r r' ta tb tc):=by
 intro pins s σ H Q I h
 refine Compare_chain (thn (ha pins s σ H _ I h) fun v s1 ⟨x,H1,I1,r1,q1⟩=>chain_link (thn (hb pins s1 σ H1 _ I1 q1) fun u s2 ⟨y,H2,I2,r2,q2⟩=>
  thn (ho pins s2 σ H2 x y v u _ I2 r1 r2 q2) fun d s3 ⟨z,H3,I3,r3,k,e,q3⟩=>?_)) hm
 subst e
 cases r3
 refine wpAny_truthy_bool ?_
 cases k with
 | false=>exact ite_ff ⟨.bl false,H3,I3,rfl,q3⟩
 | true=>exact ite_tt (chain_last (thn (hc pins s3 σ H3 _ I3 q3) fun w' s4 ⟨z',H4,I4,r4,q4⟩=>ho' pins s4 σ H4 y z' u w' Q I4 r2 r4 q4))
theorem zY {op op':CmpOp} {r r':R2} (ho:OpR X (compareOp op) r) (ho':OpR X (compareOp op') r') (ha:PE X a ta) (hb:PE X b tb) (hc:PE X c tc)
  (hm:lastMarks [op,op'] [b,c]=false:=by with_unfolding_all rfl):PT X (.Compare a [op,op'] [b,c] pos) (sH (D3 r r' ta tb tc)):=by
 intro pins s σ H Q I h
 refine isTrue_chain (thn (ha pins s σ H _ I h) fun v s1 ⟨x,H1,I1,r1,q1⟩=>test_link (thn (hb pins s1 σ H1 _ I1 q1) fun u s2 ⟨y,H2,I2,r2,q2⟩=>
  thn (ho pins s2 σ H2 x y v u _ I2 r1 r2 q2) fun d s3 ⟨z,H3,I3,r3,k,e,q3⟩=>?_)) hm
 subst e
 cases r3
 refine wpAny_truthy_bool ?_
 cases k with
 | false=>
  obtain⟨k',e',q'⟩:=q3
  cases e'
  exact ite_ff ⟨H3,I3,q'⟩
 | true=>
  refine ite_tt (test_last (thn (hc pins s3 σ H3 _ I3 q3) fun w' s4 ⟨z',H4,I4,r4,q4⟩=>thn (ho' pins s4 σ H4 y z' u w' _ I4 r2 r4 q4) fun d' s5 zQq=>?_))
  obtain⟨z2,H5,I5,r5,k2,e2,q5⟩:=zQq
  subst e2
  cases r5
  exact wpAny_truthy_bool ⟨H5,I5,q5⟩
def TruV (K:PySem.W.Frag) (x:V) (H:Hp) (k:Bool):Prop:=
 match x with
 | .non=>k=false
 | .bl b=>k=b
 | .int i=>k=(i != 0)
 | .str y=>y.length<=sizeLine/\k=((y.length:Int) != 0)
 | .byt y=>y.size<=sizeLine/\k=((y.size:Int) != 0)
 | .ref p=>(∃ xs,SqL K H p xs/\k = !xs.isEmpty)\/(∃ xs,SqT K H p xs/\k = !xs.isEmpty)\/∃ kvs,H p=some (.dK kvs)/\k = !kvs.isEmpty
 | _=>False
theorem Bl {κ : Type} {kvs:List (κ × V)} {vs:List (κ × Value)} (r:KV kvs vs):(!vs.isEmpty) = !kvs.isEmpty:=by
 cases r <;> rfl
theorem uL {xs:List V} {its:List Value} (r:bQ xs its):(!its.toArray.isEmpty) = !xs.isEmpty:=by
 cases r <;> simp
theorem uG:(sizeLine:Nat)<2 ^ 63:=by rw[sizeLine_eq]; decide
theorem G4:TruR X (fun x H Q=>∃ k,TruV X.K x H k/\Q k H):=by
 intro pins s σ H x v Q I rx h
 obtain⟨k,e,q⟩:=h
 have hl:=uG
 have hs:sizeLine=16777216:=sizeLine_eq
 cases x with
 | non=>
  cases rx
  have e':k=false:=e
  subst e'
  exact truthy_none ⟨H,I,q⟩
 | bl b=>
  cases rx
  have e':k=b:=e
  subst e'
  exact wpAny_truthy_bool ⟨H,I,q⟩
 | int i=>
  obtain⟨t,rfl⟩:=rx
  have e':k=(i != 0):=e
  subst e'
  exact PySem.P.truthy_int ⟨H,I,q⟩
 | str y=>
  obtain⟨t,rfl⟩:=rx
  obtain⟨hy,e'⟩:y.length<=sizeLine/\k=((y.length:Int) != 0):=e
  subst e'
  exact PySem.P.truthy_str (by omega) ⟨H,I.tok _,q⟩
 | byt y=>
  obtain⟨t,rfl⟩:=rx
  obtain⟨hy,e'⟩:y.size<=sizeLine/\k=((y.size:Int) != 0):=e
  subst e'
  exact PySem.W.truthy_bytes (by omega) ⟨H,I.tok _,q⟩
 | ref p=>
  cases rx
  have e':(∃ xs,SqL X.K H p xs/\k = !xs.isEmpty)\/(∃ xs,SqT X.K H p xs/\k = !xs.isEmpty)\/∃ kvs,H p=some (.dK kvs)/\k = !kvs.isEmpty:=e
  rcases e' with ⟨xs,hx,e'⟩ | ⟨xs,hx,e'⟩ | ⟨kvs,hx,e'⟩
  ·subst e'
   obtain⟨its,r,pl,hz⟩:=I.list hx
   have hlen:=r.length
   exact wpAny_truthy_list pl.isList (by simp only[size_toArray]; omega) ⟨H,I.tok _,by rw[uL r]; exact q⟩
  ·subst e'
   obtain⟨its,r,pl,hz⟩:=I.tuple hx
   have hlen:=r.length
   exact truthy_tuple pl (by simp only[size_toArray]; omega) ⟨H,I.tok _,by rw[uL r]; exact q⟩
  ·subst e'
   obtain⟨hz,hS,vs,r,m⟩:kvs.length<=sizeLine/\(p == sysModules)=false/\∃ vs,KV kvs vs/\s.heap.DictOf (cE X.prog X.w) p vs:=I.hok p _ hx
   have hlen:kvs.length=vs.length:=Paired.length r
   exact wpAny_truthy_dict hS m (by omega) ⟨H,I.tok _,by rw[Bl r]; exact q⟩
 | _=>exact(show False from e).elim
theorem tW:OpR X (binaryOp .Add) (fun x y H Q=>∃ i j,x = .str i/\y = .str j/\i.length+j.length<=sizeLine/\Q (.str (i++j)) H):=by
 intro pins s σ H x y v u Q I rx ry h
 obtain⟨i,j,rfl,rfl,hz,q⟩:=h
 obtain⟨t,rfl⟩:=rx
 obtain⟨t',rfl⟩:=ry
 exact add_str (fun t' tk=>⟨.str (i++j),H,I.tok _,⟨_,rfl⟩,q⟩) hz
theorem vS {x:V} {us:List Value} (r:bQ [x] us):∃ u,us=[u]/\bW x u:=by
 cases r with
 | cons r1 r2=>cases r2; exact⟨_,rfl,r1⟩
theorem Gn {x y:V} {us:List Value} (r:bQ [x,y] us):∃ u w',us=[u,w']/\bW x u/\bW y w':=by
 cases r with
 | cons r1 r2=>
  cases r2 with
  | cons r3 r4=>cases r4; exact⟨_,_,rfl,r1,r3⟩
theorem xE (hc:X.calm=true):eY X (.builtin "max") (fun xs H Q=>∃ i j,xs=[.int i,.int j]/\Q (.int (if j > i then j else i)) H):=by
 intro pins s σ H xs us Q I r h
 obtain⟨i,j,rfl,q⟩:=h
 obtain⟨u,w',rfl,⟨t,rfl⟩,⟨t',rfl⟩⟩:=Gn r
 refine max_two_ints (I.ok.hd hc) fun h' tk k=>⟨_,H,I.kept k,?_,q⟩
 by_cases hj:j > i
 ·rw[if_pos hj,if_pos hj]; exact⟨_,rfl⟩
 ·rw[if_neg hj,if_neg hj]; exact⟨_,rfl⟩
theorem Dh (hc:X.calm=true):eY X (.builtin "min") (fun xs H Q=>∃ i j,xs=[.int i,.int j]/\Q (.int (if j<i then j else i)) H):=by
 intro pins s σ H xs us Q I r h
 obtain⟨i,j,rfl,q⟩:=h
 obtain⟨u,w',rfl,⟨t,rfl⟩,⟨t',rfl⟩⟩:=Gn r
 refine min_two_ints (I.ok.hd hc) fun h' tk k=>⟨_,H,I.kept k,?_,q⟩
 by_cases hj:j<i
 ·rw[if_pos hj,if_pos hj]; exact⟨_,rfl⟩
 ·rw[if_neg hj,if_neg hj]; exact⟨_,rfl⟩
end
structure ObjM (h:Heap) (x dx C:Addr) (mA:Str->Option Value):Prop where
 obj:h.get? x=some (instObj C dx)
 ns:h.Ns1 dx mA
 ne:dx≠x
theorem DO {h:Heap} {dx:Addr} {mA:Str->Option Value} (n:h.Ns1 dx mA):∃ od,h.get? dx=some od/\∀ name,PySem.W.lookIn name od=some (mA name):=by
 obtain⟨o,es,ep,ho,hd,hk,_,hm⟩:=n
 refine⟨o,ho,fun name=>?_⟩
 have e:=hm name
 unfold nsFind findBy at e
 rw[<- Array.find?_toList]at e
 unfold PySem.W.lookIn
 rw[hd]
 dsimp only
 split
 ·rename_i y q
  rw[q]at e
  exact congrArg some e
 ·rename_i q
  rw[q]at e
  have a:es.toList.any (·.refKey)=false:=by
   rw[List.any_eq_false]
   intro y hy
   obtain⟨z,t,hkey⟩:=hk y (Array.mem_toList_iff.mp hy)
   simp [DictEntry.refKey,hkey]
  have a':¬ es.toList.any (·.refKey)=true:=by rw[a]; exact Bool.false_ne_true
  rw[if_neg a']
  exact congrArg some e
theorem ObjM.look {h:Heap} {x dx C:Addr} {mA:Str->Option Value} (I:ObjM h x dx C mA):∃ od,PySem.W.InstAt h x (instObj C dx) C (some od)/\∀ name,PySem.W.lookIn name od=some (mA name):=
 let ⟨od,ho,hl⟩:=DO I.ns
 ⟨od,⟨I.obj,rfl,rfl,ho⟩,hl⟩
section
variable {prog:Program} {w:World} {A:Around} {E:Value->Shared->Prop} {s:Shared} {K:PySem.W.Frag} {x dx C f:Addr} {mA:Str->Option Value} {name:Str} {v:Value}
theorem GW {expr:Bool} {Q:Value->Shared->Prop} (X:K.In s.heap) (I:ObjM s.heap x dx C mA) (hg:plainGet K C name=true) (hh:hasDictIn K C=true)
  (ha:findIn K (.ref C) name=some none) (hv:mA name=some v) (hv':PySem.W.handedIn v=true) (h:Q v { s with toks:=s.toks+1 }) :
  wpAny (model prog w) A (getAttr (.ref x) name expr) Q E s:=by
 obtain⟨od,J,hl⟩:=I.look
 exact PySem.W.get_value X J (plainGet_of hg).1 (PySem.W.findObj_own hh ha rfl (by rw[hl,hv])) hv' h
theorem FD {pl:Sem Bool} {Q:Value × List Value->Shared->Prop} (X:K.In s.heap) (I:ObjM s.heap x dx C mA) (hg:plainGet K C name=true)
  (hf:findIn K (.ref C) name=some (some (.ref f))) (ht:PySem.W.isFn K (.ref f)=true) (hv:mA name=none) (h:Q (.ref f,[.ref x]) s) :
  wpAny (model prog w) A (getMethod (.ref x) name pl) Q E s:=by
 obtain⟨od,J,hl⟩:=I.look
 exact PySem.W.method_fn X J (plainGet_of hg).1 (plainGet_of hg).2 hf (beq_iff_eq.mp ht) (by show (PySem.W.lookIn name od).map (·.isSome)=some false; rw[hl,hv]; rfl) h
theorem Fr {ns:List Str} {Q:Unit->Shared->Prop} (X:K.In s.heap) (I:ObjM s.heap x dx C mA)
  (hs:findIn K (.ref C) "__setattr__" = some (some (.builtin "object.__setattr__"))) (hp:PySem.W.plainOver K C=true) (ht:PySem.W.takerIn K C name=some none) (hh:hasDictIn K C=true)
  (hw:PySem.Within mA ns) (hsz:ns.length<=sizeLine)
  (h:∀ h',ObjM h' x dx C (fun y=>if y=name then some v else mA y)->Heap.SameBut dx s.heap h'->Q () { s with heap:=h',toks:=s.toks+2 }) :
  wpAny (model prog w) A (setAttr (.ref x) name v) Q E s:=by
 obtain⟨od,J,hl⟩:=I.look
 refine PySem.W.set_plain X J hs (PySem.W.osa_open (s:={ s with toks:=s.toks+1 }) (r:=none) X J hp ht fun b=>?_)
 obtain⟨cd,hc,hd'⟩:=PySem.W.any_some hh
 have hx:s.heap.get? x=some ⟨.ref C,some dx,.plain,#[]⟩:=I.obj
 refine wpAny_bind (wpAny_pure (wpAny_bind (wpAny_bind (wpAny_loadPart hx (wpAny_bind (PySem.W.Looks.here (s:={ s with toks:=s.toks+1 }) (PySem.W.looks_clsIn X hc) ?_))))))
 rw[hd']
 refine wpAny_pure (a:=some dx) (wpAny_bind (wpAny_pure (wpAny_bind ?_)))
 refine wpAny_nsSet1 (s:={ s with toks:=s.toks+1 }) I.ns fun h' hn2 hs2=>?_
 obtain⟨oD,esD,epD,hoD,hdD,hcD⟩:=hn2.count (PySem.Within.cons name v hw)
 refine wpAny_bind (wpAny_lookBehind hoD (by rw[hdD]; exact pastItsLine_dict (le_trans hcD (by rw[length_cons]; omega))) ?_)
 exact wpAny_pure (h _ ⟨(hs2.2 _ (Ne.symm I.ne)).trans I.obj,hn2,I.ne⟩ hs2)
theorem Ez {R:Result->Shared->Prop} {vs:List Value} {kw:List (Str × Value)} (X:K.In s.heap) (hm:PySem.W.makesIn K C=true)
  (hi:findIn K (.ref C) "__init__" = some (some (.ref f))) (hf:PySem.W.typeIn K (.ref f)=some (.type "function"))
  (h:codeAny (model prog w) (A.under (.builtin "type.__call__" ⟨.ref C::vs,kw⟩)) (.call (.ref f) ⟨.ref (s.heap.objs.size+1)::vs,kw⟩) (PySem.W.InitBack (s.heap.objs.size+1) R)
   { s with heap:=(s.heap.push emptyDict).push (instObj C s.heap.objs.size) }) :
  codeAny (model prog w) A (.call (.ref C) ⟨vs,kw⟩) R s:=by
 obtain⟨hh,g,d,t,os⟩:=s
 exact PySem.W.make_core (PySem.W.makes_of X hm) (PySem.W.looks_findIn X hi) (fun self=>PySem.W.bind_fn X self hf) (.inl rfl) h
end
noncomputable def gX (f:Str) (v:V):List (Str × V)->List (Str × V)
 | []=>[(f,v)]
 | (g,x)::r=>if g=f then (g,v)::r else (g,x)::gX f v r
theorem rA (f g:Str) (v:V):∀ fs:List (Str × V),(gX f v fs).lookup g=if g=f then some v else fs.lookup g
 | []=>by
  show List.lookup g [(f,v)]=_
  by_cases h:g=f
  ·have hb:(g == f)=true:=beq_iff_eq.mpr h
   simp only[List.lookup,hb,if_pos h]
  ·have hb:(g == f)=false:=beq_eq_false_iff_ne.mpr h
   simp only[List.lookup,hb,if_neg h]
 | (k,x)::r=>by
  have ih:=rA f g v r
  rw[show gX f v ((k,x)::r)=(if k=f then (k,v)::r else (k,x)::gX f v r) from rfl]
  by_cases hk:k=f
  ·rw[if_pos hk]
   by_cases h:g=k
   ·have hb:(g == k)=true:=beq_iff_eq.mpr h
    simp only[List.lookup,hb,if_pos (h.trans hk)]
   ·have hb:(g == k)=false:=beq_eq_false_iff_ne.mpr h
    simp only[List.lookup,hb,if_neg (fun e:g=f=>h (e.trans hk.symm))]
  ·rw[if_neg hk]
   by_cases h:g=k
   ·have hb:(g == k)=true:=beq_iff_eq.mpr h
    simp only[List.lookup,hb,if_neg (fun e:g=f=>hk (h.symm.trans e))]
   ·have hb:(g == k)=false:=beq_eq_false_iff_ne.mpr h
    simp only[List.lookup,hb]
    exact ih
theorem qO (f:Str) (v:V):∀ fs:List (Str × V),f∈(gX f v fs).map (·.1)/\∀ g,g∈fs.map (·.1)->g∈(gX f v fs).map (·.1)
 | []=>⟨by simp [gX],fun g h=>by simp at h⟩
 | (k,x)::r=>by
  obtain⟨i1,i2⟩:=qO f v r
  rw[show gX f v ((k,x)::r)=(if k=f then (k,v)::r else (k,x)::gX f v r) from rfl]
  by_cases hk:k=f
  ·rw[if_pos hk]
   subst hk
   exact⟨by simp,fun g h=>by simpa using h⟩
  ·rw[if_neg hk]
   refine⟨?_,fun g h=>?_⟩
   ·rw[map_cons]
    exact mem_cons_of_mem _ i1
   ·rw[map_cons]at h ⊢
    rcases mem_cons.mp h with e | e
    ·exact mem_cons.mpr (.inl e)
    ·exact mem_cons_of_mem _ (i2 g e)
theorem rC (f:Str) (v:V):∀ fs:List (Str × V),(gX f v fs).length<=fs.length+1
 | []=>by simp [gX]
 | (k,x)::r=>by
  have ih:=rC f v r
  rw[show gX f v ((k,x)::r)=(if k=f then (k,v)::r else (k,x)::gX f v r) from rfl]
  by_cases hk:k=f
  ·rw[if_pos hk,length_cons,length_cons]; omega
  ·rw[if_neg hk,length_cons,length_cons]; omega
theorem mI.some_of {v:V} {o:Option Value} (r:mI (some v) o):∃ u,o=some u/\bW v u:=by
 cases o with
 | none=>exact(show False from r).elim
 | some u=>exact⟨u,rfl,r⟩
theorem mI.none_of {o:Option Value} (r:mI none o):o=none:=by
 cases o with
 | none=>rfl
 | some u=>exact(show False from r).elim
theorem DX {v:V} {u:Value} (r:bW v u):PySem.W.handedIn u=true:=by
 cases v with
 | non=>cases (show u=Value.none from r); rfl
 | bl b=>cases (show u=Value.bool b from r); rfl
 | int i=>obtain⟨t,e⟩:=(show ∃ t,u=Value.int i t from r); cases e; rfl
 | str x=>obtain⟨t,e⟩:=(show ∃ t,u=Value.str x t from r); cases e; rfl
 | byt b=>obtain⟨t,e⟩:=(show ∃ t,u=Value.bytes b t from r); cases e; rfl
 | flt b=>obtain⟨t,e⟩:=(show ∃ t,u=Value.float b t from r); cases e; rfl
 | ref a=>cases (show u=Value.ref a from r); rfl
 | ty n=>cases (show u=Value.type n from r); rfl
section
variable {P:Program} {w:World} {H H':Hp} {h h':Heap} {a C dx:Addr} {fs fs':List (Str × V)}
theorem rX (hok:HOk P w H h) (e:H a=some (.ins C dx fs)):∃ mA,ObjM h a dx C mA/\(∀ f,mI (fs.lookup f) (mA f))/\PySem.Within mA (fs.map (·.1))/\fs.length<=1000/\H dx=some (.own a):=by
 obtain⟨d,z,ne,ob,mA,n,r,q⟩:=(show dC P w H h a (.ins C dx fs) from hok a _ e)
 exact⟨mA,⟨ob,n,ne⟩,r,q,z,d⟩
end
structure Cls (K:PySem.W.Frag) (C:Addr):Prop where
 pg:plainGet K C Str.empty=true
 hd:hasDictIn K C=true
 po:PySem.W.plainOver K C=true
 sa:findIn K (.ref C) "__setattr__" = some (some (.builtin "object.__setattr__"))
theorem Cls.get {K:PySem.W.Frag} {C:Addr} (c:Cls K C) (f:Str):plainGet K C f=true:=c.pg
def cK (K:PySem.W.Frag) (C:Addr) (f:Str):Prop:=findIn K (.ref C) f=some none
theorem cK.taker {K:PySem.W.Frag} {C:Addr} {f:Str} (n:cK K C f):PySem.W.takerIn K C f=some none:=by
 unfold PySem.W.takerIn
 rw[show findIn K (.ref C) f=some none from n]
 rfl
structure Meth (K:PySem.W.Frag) (C:Addr) (m:Str) (f:Addr):Prop where
 at_:findIn K (.ref C) m=some (some (.ref f))
 fn:PySem.W.isFn K (.ref f)=true
 kp:keepIn K (.ref f)=true
section
variable {X:Cx} {pins:List (Addr × Obj)} {σ : St} {H:Hp} {s:Shared} {a C dx:Addr} {fs:List (Str × V)} {f:Str} {v:V} {A:Around} {E:Value->Shared->Prop}
theorem uO {b:Bool} {Q:Value->Shared->Prop} (I:Inv X pins σ H s) (e:H a=some (.ins C dx fs)) (c:Cls X.K C) (n:cK X.K C f) (l:fs.lookup f=some v)
  (h:∀ u s',Inv X pins σ H s'->bW v u->Q u s'):wpAny (model X.prog X.w) A (getAttr (.ref a) f b) Q E s:=by
 obtain⟨mA,O,r,_,_,_⟩:=rX I.hok e
 obtain⟨u,hu,ru⟩:=mI.some_of (v:=v) (o:=mA f) (by rw[<- l]; exact r f)
 exact GW I.kIn O (c.get f) c.hd n hu (DX ru) (h u _ (I.tok _) ru)
theorem uN {m:Str} {g:Addr} {pl:Sem Bool} {Q:Value × List Value->Shared->Prop} (I:Inv X pins σ H s) (e:H a=some (.ins C dx fs)) (c:Cls X.K C) (k:Meth X.K C m g) (l:fs.lookup m=none)
  (h:Q (.ref g,[.ref a]) s):wpAny (model X.prog X.w) A (getMethod (.ref a) m pl) Q E s:=by
 obtain⟨mA,O,r,_,_,_⟩:=rX I.hok e
 have hn:mA m=none:=mI.none_of (by rw[<- l]; exact r m)
 exact FD I.kIn O (c.get m) k.at_ k.fn hn h
theorem sR {y:V} {u:Value} {Q:Unit->Shared->Prop} (I:Inv X pins σ H s) (e:H a=some (.ins C dx fs)) (c:Cls X.K C) (n:cK X.K C f) (hl:fs.length<1000) (ry:bW y u)
  (h:∀ s',Inv X pins σ (upd H a (.ins C dx (gX f y fs))) s'->Q () s'):wpAny (model X.prog X.w) A (setAttr (.ref a) f u) Q E s:=by
 obtain⟨mA,O,r,wi,_,ho⟩:=rX I.hok e
 have hz:(fs.map (·.1)).length<=sizeLine:=by rw[length_map,sizeLine_eq]; omega
 refine Fr I.kIn O c.sa c.po n.taker c.hd wi hz fun h' O' sb=>h _ ?_
 have hd:∃ o,h'.get? dx=some o:=let ⟨o,_,_,e',_⟩:=O'.ns; ⟨o,e'⟩
 refine I.write (x:=a) (e:=dx) (by rw[e]; exact True.intro) (.inr ho) (fun b q hb z=>(sb.2 b hb).trans z) hd ?_
 refine⟨by rw[aF O.ne]; exact ho,?_,O.ne,O'.obj,_,O'.ns,fun g=>?_,fun g hg=>?_⟩
 ·have:=rC f y fs; omega
 ·show mI ((gX f y fs).lookup g) (if g=f then some u else mA g)
  rw[rA]
  by_cases q:g=f
  ·rw[if_pos q,if_pos q]; exact ry
  ·rw[if_neg q,if_neg q]; exact r g
 ·by_cases q:g=f
  ·rw[q]; exact(qO f y fs).1
  ·refine(qO f y fs).2 g (wi g fun z=>hg ?_)
   show (if g=f then some u else mA g)=none
   rw[if_neg q]; exact z
theorem Inv.made (I:Inv X pins σ H s):Inv X pins σ (upd (upd H s.heap.objs.size (.own (s.heap.objs.size+1))) (s.heap.objs.size+1) (.ins C s.heap.objs.size []))
  { s with heap:=(s.heap.push emptyDict).push (instObj C s.heap.objs.size) }:=by
 have e1:(s.heap.push emptyDict).get? s.heap.objs.size=some emptyDict:=get?_push_size s.heap rfl
 have e2:((s.heap.push emptyDict).push (instObj C s.heap.objs.size)).get? (s.heap.objs.size+1)=some (instObj C s.heap.objs.size):=by
  have:=get?_push_size (s.heap.push emptyDict) (o:=instObj C s.heap.objs.size) rfl
  rwa [size_push]at this
 have e3:(s.heap.push emptyDict).Ns s.heap.objs.size (fun _=>none):=⟨emptyDict,#[],_,e1,rfl,(fun e he=>absurd he (by simp)),fun _=>rfl⟩
 have I1:=I.laid (a:=s.heap.objs.size) (o:=.own (s.heap.objs.size+1)) (h':=s.heap.push emptyDict) (t':=s.toks) (fun b u q=>get?_push_of_some _ q) (le_refl _) ⟨_,e1⟩
 refine I1.laid (a:=s.heap.objs.size+1) (o:=.ins C s.heap.objs.size []) (t':=s.toks) (fun b u q=>get?_push_of_some _ q) (Nat.le_of_eq (size_push _ _)) ?_
 have ne:s.heap.objs.size≠s.heap.objs.size+1:=ne_of_lt (lt_succ_self _)
 refine⟨by rw[aF ne,aC],zero_le _,ne,e2,fun _=>none,(Heap.Ns1.of_empty e3).at fun o q=>get?_push_of_some _ q,fun _=>True.intro,fun y hy=>absurd rfl hy⟩
theorem Gh {prog:Program} {w:World} {env:Env} {e:Expr} {f:Str} {pos:Pos} {s:Shared} {Q:Value->Shared->Prop} (hb:attributeBase e f env (eval e env)=eval e env)
  (h:wpAny (model prog w) A (eval e env) (fun o s₁=>wpAny (model prog w) A (getAttr o f true) Q E s₁) E s):wpAny (model prog w) A (eval (.Attribute e f pos) env) Q E s:=
 Attribute_any_ h (by rw[arm_eval_Attribute,hb])
end
def tFld (K:PySem.W.Frag) (ta:TE) (f:Str):TE:=fun σ H Q=>ta σ H fun x H1=>∃ a C dx fs v,x = .ref a/\H1 a=some (.ins C dx fs)/\Cls K C/\cK K C f/\fs.lookup f=some v/\Q v H1
def sFld (K:PySem.W.Frag) (ta tv:TE) (f:Str):TS:=fun D σ H=>tv σ H fun y H1=>ta σ H1 fun x H2=>∃ a C dx fs,x = .ref a/\H2 a=some (.ins C dx fs)/\Cls K C/\cK K C f/\fs.length<1000/\
 D.nx σ (upd H2 a (.ins C dx (gX f y fs)))
def Hx (X:Cx) (op:Operator) (rd:V->V->Hp->VK->Prop):Prop:=
 ∀ (pins:List (Addr × Obj)) (s:Shared) (σ : St) (H:Hp) (x y:V) (u v:Value) (Q:VK),Inv X pins σ H s->bW x u->bW y v->rd x y H Q->wpAny (model X.prog X.w) X.A (inplaceOp op u v) (EP X pins σ Q) X.xe s
def Fv (K:PySem.W.Frag) (ta tv:TE) (rd:V->V->Hp->VK->Prop) (f:Str):TS:=fun D σ H=>ta σ H fun x H1=>∃ a C dx fs v,x = .ref a/\H1 a=some (.ins C dx fs)/\Cls K C/\cK K C f/\fs.lookup f=some v/\
 tv σ H1 fun y H2=>rd v y H2 fun z H3=>∃ dx' fs',H3 a=some (.ins C dx' fs')/\fs'.length<1000/\D.nx σ (upd H3 a (.ins C dx' (gX f z fs')))
section
variable {X:Cx} {o e value:Expr} {f:Str} {pos pos' tpos:Pos} {ta tv:TE}
theorem dH (he:PE X e ta) (hb:attributeBase e f X.env (eval e X.env)=eval e X.env):PE X (.Attribute e f pos) (tFld X.K ta f):=by
 intro pins s σ H Q I h
 refine Gh hb (thn (he pins s σ H _ I h) fun u s1 zQq=>?_)
 obtain⟨x,H1,I1,rx,a,C,dx,fs,v,ex,ea,c,n,l,q⟩:=zQq
 subst ex
 obtain rfl:u=Value.ref a:=rx
 exact uO I1 ea c n l fun u' s2 I2 ru=>⟨v,H1,I2,ru,q⟩
theorem cQ (ha:PE X o ta) (hv:PE X value tv) (hs:swapsWith value (some (.Attribute o f pos')) pos.line X.env=pure false):PS X (.Assign [.Attribute o f pos'] value pos) (sFld X.K ta tv f):=by
 intro pins s σ H D I h
 refine plainObj_wpAny_Assign_Attribute (thn (hv pins s σ H _ I h) fun u s1 ⟨y,H1,I1,ry,q⟩=>thn (ha pins s1 σ H1 _ I1 q) fun ov s2 zQq=>?_) hs
 obtain⟨x,H2,I2,rx,a,C,dx,fs,ex,ea,c,n,l,q2⟩:=zQq
 subst ex
 obtain rfl:ov=Value.ref a:=rx
 exact sR I2 ea c n l ry fun s3 I3=>⟨σ,_,I3,q2⟩
theorem mT {op:Operator} {rd:V->V->Hp->VK->Prop} (ha:PE X o ta) (hv:PE X value tv) (hop:Hx X op rd):PS X (.AugAssign (.Attribute o f tpos) op value pos) (Fv X.K ta tv rd f):=by
 intro pins s σ H D I h
 refine wpAny_AugAssign_AttributeAny (thn (ha pins s σ H _ I h) fun ov s1 zQq=>?_)
 obtain⟨x,H1,I1,rx,a,C,dx,fs,v,ex,ea,c,n,l,q⟩:=zQq
 subst ex
 obtain rfl:ov=Value.ref a:=rx
 refine uO I1 ea c n l fun u s2 I2 ru=>thn (hv pins s2 σ H1 _ I2 q) fun w3 s3 ⟨y,H2,I3,ry,q3⟩=>thn (hop pins s3 σ H2 v y u w3 _ I3 ru ry q3) fun w4 s4 zQq=>?_
 obtain⟨z,H3,I4,rz,dx',fs',ea',l',q4⟩:=zQq
 exact sR I4 ea' c n l' rz fun s5 I5=>⟨σ,_,I5,q4⟩
def rAdd:V->V->Hp->VK->Prop:=fun x y H Q=>∃ i j,x = .int i/\y = .int j/\Q (.int (i+j)) H
def rSub:V->V->Hp->VK->Prop:=fun x y H Q=>∃ i j,x = .int i/\y = .int j/\Q (.int (i - j)) H
theorem Bp:Hx X .Add rAdd:=by
 rintro pins s σ H x y u v Q I rx ry ⟨i,j,rfl,rfl,q⟩
 obtain⟨t,rfl⟩:=(show ∃ t,u=Value.int i t from rx)
 obtain⟨t',rfl⟩:=(show ∃ t',v=Value.int j t' from ry)
 exact PyProof.Rows.iadd_int ⟨.int (i+j),H,I.tok _,⟨_,rfl⟩,q⟩
theorem Hh:Hx X .Sub rSub:=by
 rintro pins s σ H x y u v Q I rx ry ⟨i,j,rfl,rfl,q⟩
 obtain⟨t,rfl⟩:=(show ∃ t,u=Value.int i t from rx)
 obtain⟨t',rfl⟩:=(show ∃ t',v=Value.int j t' from ry)
 exact PyProof.Rows.isub_int ⟨.int (i - j),H,I.tok _,⟨_,rfl⟩,q⟩
end
section
variable {X:Cx} {pins:List (Addr × Obj)} {σ : St} {H:Hp} {s:Shared} {A:Around} {E:Value->Shared->Prop} {Q:Value->Shared->Prop} {c:Value} {b:Bool}
inductive TyOf (K:PySem.W.Frag) (H:Hp):V->Value->Prop where
 | non:TyOf K H .non (.type "NoneType")
 | bl (x:Bool):TyOf K H (.bl x) (.type "bool")
 | int (i:Int):TyOf K H (.int i) (.type "int")
 | str (x:Str):TyOf K H (.str x) (.type "str")
 | flt (x:UInt64):TyOf K H (.flt x) (.type "float")
 | lst {a:Addr} {xs:List V} (e:H a=some (.lst xs)):TyOf K H (.ref a) (.type "list")
 | frz {a:Addr} {o:Obj} {xs:List V} (e:H a=some (.frz o (.lst xs))):TyOf K H (.ref a) (.type "list")
 | tup {a:Addr} {xs:List V} (e:H a=some (.tup xs)):TyOf K H (.ref a) (.type "tuple")
 | dK {a:Addr} {kvs:List (Key × V)} (e:H a=some (.dK kvs)):TyOf K H (.ref a) (.type "dict")
 | dT {a:Addr} {kvs:List (List Key × V)} (e:H a=some (.dT kvs)):TyOf K H (.ref a) (.type "dict")
 | ins {a C dx:Addr} {fs:List (Str × V)} (e:H a=some (.ins C dx fs)) (cl:Cls K C) (ha:findIn K (.ref C) "__class__" = some (some (.builtin "object.__class__")))
   (hn:PySem.W.specialIn K (.builtin "object.__class__") "__get__" = some (some (.builtin "getset_descriptor.__get__"))) (htk:PySem.W.takesIn K (.builtin "object.__class__")=some true)
   (hm:PySem.W.mroIn K C (.type "object")=some true):TyOf K H (.ref a) (.ref C)
theorem DS {x:V} {u t:Value} (I:Inv X pins σ H s) (rx:bW x u) (ty:TyOf X.K H x t) (e:PySem.W.kitOne X.K t c=some b) (h:∀ tk,Q (.bool b) { s with toks:=tk }) :
  wpAny (model X.prog X.w) A (call (.builtin "isinstance") [u,c]) Q E s:=by
 cases ty with
 | non=>cases (show u=Value.none from rx); exact kia_one PySem.W.kitx_none I.kIn True.intro e (fun z=>nomatch z) h
 | bl y=>cases (show u=Value.bool y from rx); exact kia_one PySem.W.kitx_bool I.kIn True.intro e (fun z=>nomatch z) h
 | int i=>obtain⟨t,q⟩:=(show ∃ t,u=Value.int i t from rx); cases q; exact kia_one PySem.W.kitx_int I.kIn True.intro e (fun z=>nomatch z) h
 | str y=>obtain⟨t,q⟩:=(show ∃ t,u=Value.str y t from rx); cases q; exact kia_one PySem.W.kitx_str I.kIn True.intro e (fun z=>nomatch z) h
 | flt y=>obtain⟨t,q⟩:=(show ∃ t,u=Value.float y t from rx); cases q; exact kia_one PySem.W.kitx_float I.kIn True.intro e (fun z=>nomatch z) h
 | @lst a xs ea=>
  cases (show u=Value.ref a from rx)
  obtain⟨_,_,n,_,h1⟩:=(show dC X.prog X.w H s.heap a (.lst xs) from I.hok a _ ea)
  exact kia_one kitx_list I.kIn ⟨_,h1,rfl⟩ e (fun z=>nomatch z) h
 | @frz a ob xs ea=>
  cases (show u=Value.ref a from rx)
  obtain⟨_,_,_,n,_,h1⟩:=(show dC X.prog X.w H s.heap a (.frz ob (.lst xs)) from I.hok a _ ea)
  exact kia_one kitx_list I.kIn ⟨_,h1,rfl⟩ e (fun z=>nomatch z) h
 | @tup a xs ea=>
  cases (show u=Value.ref a from rx)
  obtain⟨_,_,_,p⟩:=(show dC X.prog X.w H s.heap a (.tup xs) from I.hok a _ ea)
  obtain⟨o,h1,h2,_⟩:=p
  exact kia_one PySem.W.kitx_tuple I.kIn ⟨o,h1,h2⟩ e (fun z=>nomatch z) h
 | @dK a kvs ea=>
  cases (show u=Value.ref a from rx)
  obtain⟨_,_,vs,_,p⟩:=(show dC X.prog X.w H s.heap a (.dK kvs) from I.hok a _ ea)
  obtain⟨o,es,ep,h1,h2,_⟩:=p
  exact kia_one kitx_dict I.kIn ⟨o,h1,h2.1⟩ e (fun z=>nomatch z) h
 | @dT a kvs ea=>
  cases (show u=Value.ref a from rx)
  obtain⟨_,_,xs,_,o,es,ep,h1,h2,_⟩:=(show dC X.prog X.w H s.heap a (.dT kvs) from I.hok a _ ea)
  exact kia_one kitx_dict I.kIn ⟨o,h1,h2.1⟩ e (fun z=>nomatch z) h
 | @ins a C dx fs ea cl ha hn htk hm=>
  cases (show u=Value.ref a from rx)
  obtain⟨mA,O,_⟩:=rX I.hok ea
  obtain⟨od,J,_⟩:=O.look
  exact kia_one (PySem.W.kitx_own (cl.get _) cl.hd ha hn htk hm) I.kIn J e (fun z=>nomatch z) h
end
structure Room (k:Nat) (A:Around):Prop where
 hd:A.handled=none
 dp:A.depth+3 * k+5<recursionLimit
 un:A.units+16 * k+200<cLine
theorem Room.mono {j k:Nat} {A:Around} (r:Room k A) (h:j<=k):Room j A:=⟨r.hd,by have:=r.dp; omega,by have:=r.un; omega⟩
theorem Room.deeper {k:Nat} {A:Around} (r:Room (k+1) A) (env:Env):Room k (A.deeper env):=
 ⟨r.hd,by have:=r.dp; show A.depth+1+3 * k+5<_; omega,by have:=r.un; show A.units+3+16 * k+200<_; omega⟩
theorem Bg {A:Around} {C:Addr} {us:List Value} {kw:List (Str × Value)}:(A.under (.builtin "type.__call__" ⟨.ref C::us,kw⟩)).depth=A.depth+1:=by
 first | rfl | simp [Around.under,Code.weight,Code.isCreation,Code.isGuard,Code.isCaller,Code.frames,Code.isFrame,guardIds]
theorem Bf {A:Around} {C:Addr} {us:List Value} {kw:List (Str × Value)}:(A.under (.builtin "type.__call__" ⟨.ref C::us,kw⟩)).units=A.units+1:=by
 first | rfl | simp [Around.under,Code.cUnits,Code.frames,Code.isFrame]
theorem Room.make {k:Nat} {A:Around} (r:Room (k+1) A) (C:Addr) (us:List Value) (kw:List (Str × Value)):Room k (A.under (.builtin "type.__call__" ⟨.ref C::us,kw⟩)):=
 ⟨r.hd,by have:=r.dp; rw[Bg]; omega,by have:=r.un; rw[Bf]; omega⟩
theorem Room.depth {k:Nat} {A:Around} (r:Room k A):A.depth<recursionLimit:=by have:=r.dp; omega
theorem Room.units {k:Nat} {A:Around} (r:Room k A):A.units+64<cLine:=by have:=r.un; omega
def eQ:TA:=fun _ H Q=>Q [] H
def cI (ta:TE) (tr:TA):TA:=fun σ H Q=>ta σ H fun x H1=>tr σ H1 fun xs H2=>Q (x::xs) H2
section
variable {X:Cx} {e:Expr} {es:List Expr} {te:TE} {t:TA} {pos:Pos}
theorem aB:PA X [] eQ:=fun _ _ _ _ H Q I h=>Calls.spliced_nil ⟨[],H,I,.nil,h⟩
theorem gP (ha:PE X e te) (hr:PA X es t) (hs:starEach (e::es) X.env=(false,eval e X.env)::starEach es X.env:=by rfl):PA X (e::es) (cI te t):=by
 intro pos pins s σ H Q I h
 rw[hs]
 show wpAny _ _ (spliced ((false,eval e X.env)::backTo pos (starEach es X.env))) _ _ s
 refine Calls.spliced_cons (thn (ha pins s σ H _ I h) fun u s1 zQq=>?_)
 obtain⟨x,H1,I1,r1,q1⟩:=zQq
 exact thn (hr pos pins s1 σ H1 _ I1 q1) fun us s2 ⟨xs,H2,I2,r2,q2⟩=>⟨x::xs,H2,I2,.cons r1 r2,q2⟩
def G6 (t:TA):TE:=fun σ H Q=>t σ H fun xs H1=>xs.length<=sizeLine/\∀ p,H1 p=none->Q (.ref p) (upd H1 p (.tup xs))
def tLst (t:TA):TE:=fun σ H Q=>t σ H fun xs H1=>xs.length<=sizeLine/\∀ p,H1 p=none->Q (.ref p) (upd H1 p (.lst xs))
theorem cB {x1} (h:PA X es t):PE X (.Tuple es x1 pos) (G6 t):=by
 intro pins s σ H Q I hq
 refine wpAny_Tuple_spliced (thn (h pos pins s σ H _ I hq) fun us s1 ⟨xs,H1,I1,r,z,q⟩=>⟨by rw[<- r.length]; exact z,?_⟩)
 have hf:H1 s1.heap.objs.size=none:=I1.hok.fresh (le_refl _)
 refine⟨.ref s1.heap.objs.size,upd H1 s1.heap.objs.size (.tup xs),I1.laid (t':=s1.toks) (fun b u e=>get?_push_of_some _ e) (le_refl _) ?_,rfl,q _ hf⟩
 exact⟨z,us,r,⟨_,get?_push_size _ rfl,rfl,_,rfl⟩⟩
theorem jF (h:PA X es t):PE X (.List es pos) (tLst t):=by
 intro pins s σ H Q I hq
 refine wpAny_List_spliced (thn (h pos pins s σ H _ I hq) fun us s1 ⟨xs,H1,I1,r,z,q⟩=>⟨by rw[<- r.length]; exact z,?_⟩)
 have hf:H1 s1.heap.objs.size=none:=I1.hok.fresh (le_refl _)
 refine⟨.ref s1.heap.objs.size,upd H1 s1.heap.objs.size (.lst xs),I1.laid (t':=s1.toks) (fun b u e=>get?_push_of_some _ e) (le_refl _) ?_,rfl,q _ hf⟩
 exact⟨z,us,0,r,get?_push_size _ rfl⟩
end
noncomputable abbrev Sp:=List V->Hp->VK->XK->Prop
noncomputable abbrev CXT:=List Env->Hp->Shared->XK->Value->Shared->Prop
structure Env0 (P:Program) (w:World) (K:PySem.W.Frag) (mg:Str->Option Value) (base:Heap) (A:Around) (outer:List Env) (s:Shared) (H:Hp):Prop where
 frames:A.frames=some outer
 mod:Mod K mg base
 bs:∀ b o,base.get? b=some o->s.heap.get? b=some o/\H b=none
 bsz:base.objs.size<=s.heap.objs.size
 funs:s.heap.FunFrames base outer
 frf:∀ b∈frs outer,H b=none
 hok:HOk P w H s.heap
 bare:AllBare s.gens
def CE (outer:List Env) (P:Program) (w:World) (H:Hp) (s:Shared) (Q:VK) (u:Value) (s':Shared):Prop:=
 ∃ v H',s'.os=s.os/\AllBare s'.gens/\Un (frs outer) [] H H' s.heap s'.heap/\HOk P w H' s'.heap/\bW v u/\Q v H'
def CR (CX:CXT) (outer:List Env) (P:Program) (w:World) (H:Hp) (s:Shared) (Q:VK) (E:XK) (r:Result) (s':Shared):Prop:=
 match r with
 | .ok (.ret u)=>CE outer P w H s Q u s'
 | .ok _=>False
 | .error e=>CX outer H s E e s'
structure FnOk (P:Program) (w:World) (K:PySem.W.Frag) (mg:Str->Option Value) (base:Heap) (CX:CXT) (k:Nat) (f:Addr) (fd:FuncData) (ps:List Str) (sp:Sp):Prop where
 len:∀ vs H Q E,sp vs H Q E->vs.length=ps.length
 run:∀ (A:Around) (outer:List Env) (s:Shared) (H:Hp) (args:Args) (us:List Value) (vs:List V) (Q:VK) (E:XK),Room k A->Env0 P w K mg base A outer s H->BindsTo s fd args (ps.zip us)->bQ vs us->sp vs H Q E->
  codeAny (model P w) A (.call (.ref f) args) (CR CX outer P w H s Q E) s
theorem Env0.make {P:Program} {w:World} {K:PySem.W.Frag} {mg:Str->Option Value} {base:Heap} {A:Around} {outer:List Env} {s:Shared} {H:Hp} (e:Env0 P w K mg base A outer s H) (C:Addr) (us:List Value) (kw:List (Str × Value)) :
  Env0 P w K mg base (A.under (.builtin "type.__call__" ⟨.ref C::us,kw⟩)) outer s H:=⟨by first | exact e.frames | (simpa [Around.under,Code.envs,Code.isFrame,pushEnvs] using e.frames),e.mod,e.bs,e.bsz,e.funs,e.frf,e.hok,e.bare⟩
section
variable {X:Cx} {pins:List (Addr × Obj)} {σ : St} {H:Hp} {s s':Shared}
theorem Inv.env0 (I:Inv X pins σ H s):Env0 X.prog X.w X.K X.mg X.base X.A X.stack s H:=
 ⟨I.ok.frames,I.ok.mod,I.bs,le_trans I.ok.bsz I.sz,I.stack,I.stkFree,I.hok,I.bare⟩
theorem Inv.after {Q:VK} {u:Value} (I:Inv X pins σ H s) (h:CE X.stack X.prog X.w H s Q u s'):EP X pins σ Q u s':=by
 obtain⟨v,H',os,bare,un,hok,r,q⟩:=h
 obtain⟨hh,g,d,t,os'⟩:=s'
 obtain rfl:os'=s.os:=os
 exact⟨v,H',I.call (h':=hh) (g':=g) (d':=d) (t':=t) (ch:=[]) un hok bare (fun b z=>absurd z (by simp)),r,q⟩
end
def D4 (sp:Sp) (dvs:List V) (E:XK) (t:TA):TE:=fun σ H Q=>t σ H fun vs H1=>sp (vs++dvs) H1 Q E
def B8 (C:Addr) (m:Str) (sp:Sp) (dvs:List V) (E:XK) (ta:TE) (t:TA):TE:=fun σ H Q=>ta σ H fun x H1=>∃ a dx fs,x = .ref a/\H1 a=some (.ins C dx fs)/\fs.lookup m=none/\
 t σ H1 fun vs H2=>sp (x::(vs++dvs)) H2 Q E
def B9 (C:Addr) (sp:Sp) (dvs:List V) (E:XK) (t:TA):TE:=fun σ H Q=>t σ H fun vs H1=>∀ x dx,H1 x=none->H1 dx=none->dx≠x->
 sp (.ref x::(vs++dvs)) (upd (upd H1 dx (.own x)) x (.ins C dx [])) (fun v H2=>v = .non/\Q (.ref x) H2) E
def kI (K:PySem.W.Frag) (fd:FuncData) (ps:List Str) (ds:List Value):Prop:=
 ∀ (s:Shared) (us:List Value),K.In s.heap->(us++ds).length=ps.length->BindsTo s fd ⟨us,[]⟩ (ps.zip (us++ds))
theorem kI.all {K:PySem.W.Frag} {fd:FuncData} {ps:List Str} (h:∀ us:List Value,us.length=ps.length->bindArgs fd ⟨us,[]⟩=pure (ps.zip us)):kI K fd ps []:=fun s us _ hl=>by
 rw[append_nil]at hl ⊢
 exact .of_eq (h us hl)
def fM (CX:CXT) (X:Cx) (E:XK):Prop:=∀ (pins:List (Addr × Obj)) (σ : St) (H:Hp) (s:Shared) (e:Value) (s':Shared),Inv X pins σ H s->CX X.stack H s E e s'->X.xe e s'
section
variable {X:Cx} {CX:CXT} {k:Nat} {f C:Addr} {fd:FuncData} {ps:List Str} {sp:Sp} {dvs:List V} {ds:List Value} {E:XK} {x m:Str} {p pos apos:Pos} {e o:Expr} {es:List Expr} {ta:TE} {t:TA}
theorem BD {pins:List (Addr × Obj)} {σ : St} {H:Hp} {s:Shared} {Q:VK} {us:List Value} {vs:List V} (F:FnOk X.prog X.w X.K X.mg X.base CX k f fd ps sp) (hr:Room k X.A) (hb:kI X.K fd ps ds) (hd:bQ dvs ds) (hx:fM CX X E)
  (I:Inv X pins σ H s) (r:bQ vs us) (h:sp (vs++dvs) H Q E):wpAny (model X.prog X.w) X.A (call (.ref f) us) (EP X pins σ Q) X.xe s:=by
 have r2:bQ (vs++dvs) (us++ds):=r.append hd
 have hl:(us++ds).length=ps.length:=by rw[<- r2.length]; exact F.len _ _ _ _ h
 refine wpAny_call (codeAny_mono (F.run X.A X.stack s H ⟨us,[]⟩ (us++ds) (vs++dvs) Q E hr I.env0 (hb s us I.kIn hl) r2 h) fun r s' hq=>?_)
 cases r with
 | error e=>exact hx pins σ H s e s' I hq
 | ok fl=>
  cases fl with
  | ret u=>exact I.after hq
  | next=>exact False.elim hq
  | brk=>exact False.elim hq
  | cont=>exact False.elim hq
theorem F6 (F:FnOk X.prog X.w X.K X.mg X.base CX k f fd ps sp) (hr:Room k X.A) (hg:Gl X x) (hm:X.mg x=some (.ref f)) (hk:keepIn X.K (.ref f)=true) (hb:kI X.K fd ps ds) (hd:bQ dvs ds) (hx:fM CX X E)
  (ha:PA X (e::es) t) (hdb:(x == ("__debug__" : Str))=false:=by decide) (he:starEach (e::es) X.env=(false,eval e X.env)::starEach es X.env:=by rfl) (hpl:(backTo pos (starEach es X.env)).any (·.1)=false:=by rfl) :
  PE X (.Call (.Name x p) (e::es) [] pos) (D4 sp dvs E t):=by
 intro pins s σ H Q I h
 refine wpAny_Call_Name_kw (o5 I hg hm ?_ hdb)
 refine callWith_K (h₀:=X.base) I.ok.mod.kin hk (thn (ha pos pins s σ H _ I h) fun us s1 ⟨vs,H1,I1,r,q⟩=>⟨I1.kIn,?_⟩) he hpl
 exact BD F hr hb hd hx I1 r q
theorem F3 {pl:Sem Bool} (he:PE X o ta) (c:Cls X.K C) (hm:Meth X.K C m f) (F:FnOk X.prog X.w X.K X.mg X.base CX k f fd ps sp) (hr:Room k X.A) (hb:kI X.K fd ps ds) (hd:bQ dvs ds) (hx:fM CX X E) (ha:PA X (e::es) t)
  (hst:starEach (e::es) X.env=(false,eval e X.env)::starEach es X.env:=by rfl) (hpl:(backTo pos (starEach es X.env)).any (·.1)=false:=by rfl)
  (ht:eval (.Call (.Attribute o m apos) (e::es) [] pos) X.env=(do
   let ov <- eval o X.env
   standAt apos.atName
   let (f,first) <- holding [ov] (getMethod ov m pl)
   callWith pos f first (backTo pos (starEach (e::es) X.env)) (backToKw pos (keywordEach [] X.env))):=by rfl) :
  PE X (.Call (.Attribute o m apos) (e::es) [] pos) (B8 C m sp dvs E ta t):=by
 intro pins s σ H Q I h
 refine methodCall_KW (pl:=pl) (thn (he pins s σ H _ I h) fun u s1 zQq=>?_) ht
 obtain⟨x,H1,I1,rx,a,dx,fs,ex,ea,l,q⟩:=zQq
 subst ex
 obtain rfl:u=Value.ref a:=rx
 refine uN I1 ea c hm l ?_
 refine callWith_K (first:=[.ref a]) (h₀:=X.base) I.ok.mod.kin hm.kp (thn (ha pos pins s1 σ H1 _ I1 q) fun us s2 ⟨vs,H2,I2,r,q2⟩=>⟨I2.kIn,?_⟩) hst hpl
 exact BD (us:=.ref a::us) (vs:=.ref a::vs) F hr hb hd hx I2 (.cons rfl r) q2
theorem Ee {pl:Sem Bool} (he:PE X o ta) (c:Cls X.K C) (hm:Meth X.K C m f) (F:FnOk X.prog X.w X.K X.mg X.base CX k f fd ps sp) (hr:Room k X.A) (hb:kI X.K fd ps ds) (hd:bQ dvs ds) (hx:fM CX X E)
  (ht:eval (.Call (.Attribute o m apos) [] [] pos) X.env=(do
   let ov <- eval o X.env
   standAt apos.atName
   let (f,first) <- holding [ov] (getMethod ov m pl)
   callWith pos f first (backTo pos (starEach [] X.env)) (backToKw pos (keywordEach [] X.env))):=by rfl) :
  PE X (.Call (.Attribute o m apos) [] [] pos) (B8 C m sp dvs E ta eQ):=by
 intro pins s σ H Q I h
 refine methodCall_KW (pl:=pl) (thn (he pins s σ H _ I h) fun u s1 zQq=>?_) ht
 obtain⟨x,H1,I1,rx,a,dx,fs,ex,ea,l,q⟩:=zQq
 subst ex
 obtain rfl:u=Value.ref a:=rx
 refine uN I1 ea c hm l ?_
 exact callWith_K0 (first:=[.ref a]) I1.kIn hm.kp (BD (us:=[.ref a]) (vs:=[.ref a]) F hr hb hd hx I1 (.cons rfl .nil) q)
structure Mk (K:PySem.W.Frag) (C f:Addr):Prop where
 makes:PySem.W.makesIn K C=true
 init:findIn K (.ref C) "__init__" = some (some (.ref f))
 fn:PySem.W.isFn K (.ref f)=true
 kp:keepIn K (.ref C)=true
theorem zU {pins:List (Addr × Obj)} {σ : St} {H:Hp} {s:Shared} {Q:VK} {us:List Value} {vs:List V} (M:Mk X.K C f) (F:FnOk X.prog X.w X.K X.mg X.base CX k f fd ps sp) (hr:Room (k+1) X.A) (hb:kI X.K fd ps ds) (hd:bQ dvs ds)
  (hx:fM CX X E) (I:Inv X pins σ H s) (r:bQ vs us)
  (h:∀ x dx,H x=none->H dx=none->dx≠x->sp (.ref x::(vs++dvs)) (upd (upd H dx (.own x)) x (.ins C dx [])) (fun v H2=>v = .non/\Q (.ref x) H2) E) :
  wpAny (model X.prog X.w) X.A (call (.ref C) us) (EP X pins σ Q) X.xe s:=by
 have hq:=h (s.heap.objs.size+1) s.heap.objs.size (I.hok.fresh (le_succ _)) (I.hok.fresh (le_refl _)) (ne_of_lt (lt_succ_self _))
 have I2:=Inv.made (C:=C) I
 have r2:bQ (V.ref (s.heap.objs.size+1)::(vs++dvs)) (Value.ref (s.heap.objs.size+1)::(us++ds)):=.cons rfl (r.append hd)
 have hl:(Value.ref (s.heap.objs.size+1)::us++ds).length=ps.length:=by
  have e:=r2.length
  rw[F.len _ _ _ _ hq]at e
  exact e.symm
 refine wpAny_call (Ez (f:=f) I.kIn M.makes M.init (beq_iff_eq.mp M.fn) (codeAny_mono (F.run _ X.stack _ _ ⟨Value.ref (s.heap.objs.size+1)::us,[]⟩ (Value.ref (s.heap.objs.size+1)::(us++ds)) _ _ E (hr.make C us [])
  (I2.env0.make C us []) (hb _ (Value.ref (s.heap.objs.size+1)::us) I2.kIn hl) r2 hq) fun r s' hq'=>?_))
 cases r with
 | error e=>exact hx pins σ _ _ e s' I2 hq'
 | ok fl=>
  cases fl with
  | ret u=>
   obtain⟨v,H',I3,rv,ev,q3⟩:=I2.after hq'
   subst ev
   exact⟨rv,⟨V.ref (s.heap.objs.size+1),H',I3,rfl,q3⟩⟩
  | next=>exact False.elim hq'
  | brk=>exact False.elim hq'
  | cont=>exact False.elim hq'
theorem F5 (M:Mk X.K C f) (F:FnOk X.prog X.w X.K X.mg X.base CX k f fd ps sp) (hr:Room (k+1) X.A) (hg:Gl X x) (hm:X.mg x=some (.ref C)) (hb:kI X.K fd ps ds) (hd:bQ dvs ds) (hx:fM CX X E)
  (ha:PA X (e::es) t) (hdb:(x == ("__debug__" : Str))=false:=by decide) (he:starEach (e::es) X.env=(false,eval e X.env)::starEach es X.env:=by rfl) (hpl:(backTo pos (starEach es X.env)).any (·.1)=false:=by rfl) :
  PE X (.Call (.Name x p) (e::es) [] pos) (B9 C sp dvs E t):=by
 intro pins s σ H Q I h
 refine wpAny_Call_Name_kw (o5 I hg hm ?_ hdb)
 refine callWith_K (h₀:=X.base) I.ok.mod.kin M.kp (thn (ha pos pins s σ H _ I h) fun us s1 ⟨vs,H1,I1,r,q⟩=>⟨I1.kIn,?_⟩) he hpl
 exact zU M F hr hb hd hx I1 r q
theorem Ef (M:Mk X.K C f) (F:FnOk X.prog X.w X.K X.mg X.base CX k f fd ps sp) (hr:Room (k+1) X.A) (hg:Gl X x) (hm:X.mg x=some (.ref C)) (hb:kI X.K fd ps ds) (hd:bQ dvs ds) (hx:fM CX X E)
  (hdb:(x == ("__debug__" : Str))=false:=by decide):PE X (.Call (.Name x p) [] [] pos) (B9 C sp dvs E eQ):=by
 intro pins s σ H Q I h
 refine wpAny_Call_Name_kw (o5 I hg hm ?_ hdb)
 exact callWith_K0 I.kIn M.kp (zU (us:=[]) M F hr hb hd hx I .nil h)
end
section
variable {X:Cx} {CX:CXT} {k:Nat} {f C:Addr} {fd:FuncData} {ps ks:List Str} {sp:Sp} {E:XK} {x m:Str} {p pos apos kpos:Pos} {e o:Expr} {es:List Expr} {kws:List Keyword} {te ta:TE} {t tk:TA} {nm:Option Str}
variable {g:List Value->List Value->List Value} {gV:List V->List V->List V}
end
structure FnScope (N P:List Str) (sc:Scope):Prop where
 kind:sc.kind = .function
 co:sc.isCoroutine=false
 gen:sc.isGenerator=false
 nd:N.Nodup
 pre:N.take P.length=P
 par:∀ x∈P,sc.names.lookup x=some .local\/sc.names.lookup x=some .cell
 nofree:∀ y∈sc.names,y.2 ≠ .free
theorem xG {kindOf:Str->Option NameKind} {x:Str}:∀ {binds:List (Str × Value)} {m:Str->Option Value},(∀ v,(x,v) ∉ binds)->bindL kindOf binds m x=m x
 | [],_,_=>rfl
 | (n,v)::r,m,h=>by
  unfold bindL
  rw[xG fun w hw=>h w (mem_cons_of_mem _ hw)]
  split
  ·have:x≠n:=by rintro rfl; exact h v mem_cons_self
   simp [this]
  ·rfl
theorem xI {kindOf:Str->Option NameKind} {x:Str}:∀ {binds:List (Str × Value)} {m:Str->Option Value},(∀ v,(x,v) ∉ binds)->bindC kindOf binds m x=m x
 | [],_,_=>rfl
 | (n,v)::r,m,h=>by
  unfold bindC
  rw[xI fun w hw=>h w (mem_cons_of_mem _ hw)]
  split
  ·rfl
  ·have:x≠n:=by rintro rfl; exact h v mem_cons_self
   simp [this]
theorem xH {kindOf:Str->Option NameKind} {x:Str} {v:Value}:∀ {P:List Str} {vs:List Value} {i:Nat} {m:Str->Option Value},P.Nodup->P[i]? = some x->vs[i]? = some v->kindOf x=some .local->
  bindL kindOf (P.zip vs) m x=some v
 | [],_,_,_,_,h,_,_=>by simp at h
 | _::_,[],_,_,_,_,h,_=>by simp at h
 | p::P,w::vs,0,m,nd,h1,h2,hk=>by
  simp at h1 h2; subst h1; subst h2
  show bindL kindOf ((p,w)::P.zip vs) m p=_
  unfold bindL
  rw[xG fun v hv=>(nodup_cons.mp nd).1 (List.of_mem_zip hv).1,if_pos hk]
  simp
 | p::P,w::vs,i+1,m,nd,h1,h2,hk=>by
  show bindL kindOf ((p,w)::P.zip vs) m x=_
  unfold bindL
  exact xH (i:=i) (nodup_cons.mp nd).2 (by simpa using h1) (by simpa using h2) hk
theorem xJ {kindOf:Str->Option NameKind} {x:Str} {v:Value}:∀ {P:List Str} {vs:List Value} {i:Nat} {m:Str->Option Value},P.Nodup->P[i]? = some x->vs[i]? = some v->kindOf x≠some .local->
  bindC kindOf (P.zip vs) m x=some v
 | [],_,_,_,_,h,_,_=>by simp at h
 | _::_,[],_,_,_,_,h,_=>by simp at h
 | p::P,w::vs,0,m,nd,h1,h2,hk=>by
  simp at h1 h2; subst h1; subst h2
  show bindC kindOf ((p,w)::P.zip vs) m p=_
  unfold bindC
  rw[xI fun v hv=>(nodup_cons.mp nd).1 (List.of_mem_zip hv).1,if_neg hk]
  simp
 | p::P,w::vs,i+1,m,nd,h1,h2,hk=>by
  show bindC kindOf ((p,w)::P.zip vs) m x=_
  unfold bindC
  exact xJ (i:=i) (nodup_cons.mp nd).2 (by simpa using h1) (by simpa using h2) hk
noncomputable def qW (N:List Str) (vs:List V):St:=vs.map some++List.replicate (N.length - vs.length) none
noncomputable def Bu (CX:CXT) (P:Program) (w:World) (K:PySem.W.Frag) (mg:Str->Option Value) (base:Heap) (N:List Str) (qual:Str) (scope:Scope) (f:Addr) (cd:Value) (A:Around) (outer:List Env) (s:Shared) (H:Hp) (E:XK):Cx where
 prog:=P
 w:=w
 K:=K
 mg:=mg
 base:=base
 A:=A.deeper (envOfC qual scope s.heap.objs.size f cd)
 N:=N
 s₀:=s
 H₀:=H
 env:=envOfC qual scope s.heap.objs.size f cd
 outer:=outer
 stack:=envOfC qual scope s.heap.objs.size f cd::outer
 ex:=[]
 calm:=true
 fn:=fun _=>true
 pn:=[]
 xe:=fun e s'=>wpAny (model P w) (A.deeper (envOfC qual scope s.heap.objs.size f cd)) (leaving (envOfC qual scope s.heap.objs.size f cd) e) (fun _ s''=>CX outer H s E e s'') (fun e' s''=>CX outer H s E e' s'') s'
theorem Ak {sc:Scope} {n:Nat} {x:Str} (h:sc.names.lookup x=some .cell):∃ c,(cellsFrom n sc.names []).lookup x=some c:=by
 have q:=PySem.W.cellsFrom_some sc.names n [] (.inl h)
 exact Option.isSome_iff_exists.mp q
theorem DT {CX:CXT} {P:Program} {w:World} {K:PySem.W.Frag} {mg:Str->Option Value} {base:Heap} {N ps:List Str} {qual:Str} {scope:Scope} {f:Addr} {cd:Value} {A:Around} {outer:List Env} {s s1:Shared} {H:Hp} {E:XK} {us:List Value} {vs:List V}
  (S:FnScope N ps scope) (hd:A.handled=none) (e0:Env0 P w K mg base A outer s H) (hl:vs.length=ps.length) (r:bQ vs us)
  (x:InCallC s s.heap.objs.size (bindL (envOfC qual scope s.heap.objs.size f cd).kindOf (ps.zip us) fun _=>none) (cellsFrom (s.heap.objs.size+1) scope.names []) (bindC (envOfC qual scope s.heap.objs.size f cd).kindOf (ps.zip us) fun _=>none) s1) :
  Inv (Bu CX P w K mg base N qual scope f cd A outer s H E) [] (qW N vs) H s1:=by
 have hpl:ps.length<=N.length:=by have:=congrArg List.length S.pre; rw[length_take]at this; omega
 obtain⟨h1,tk,rfl,hk⟩:=x.done
 have noA:∀ b:Addr,b ∉ (Bu CX P w K mg base N qual scope f cd A outer s H E).ex:=fun b z=>absurd (show b∈([]:List Addr) from z) (by simp)
 refine⟨⟨e0.mod,S.kind,rfl,rfl,le_refl _,fun y z c h1 h2=>?_,fun y hy=>?_,fun y c _ h=>?_,fun _=>hd,Around.frames_deeper e0.frames,.inr ⟨rfl,rfl⟩,fun b z=>absurd z (noA b),e0.bs,e0.bsz,fun b _ _=>noA b,fun b z=>absurd z (noA b),e0.funs,e0.frf⟩,
  rfl,e0.bare,Un.kept hk,⟨_,x.toInCall.ns,fun i y v h1 h2 h3=>?_⟩,fun y c h=>⟨_,x.cell y c h⟩,e0.hok.fresh (le_refl _),fun y c h=>?_,fun p hp=>absurd (show p∈([]:List (Addr × Obj)) from hp) (by simp),e0.hok.kept hk,?_⟩
 ·exact name_of_addr x.apart (PySem.mem_of_lookup h1) (PySem.mem_of_lookup h2)
 ·have hy:scope.names.lookup y=some .cell\/scope.names.lookup y=some .free:=hy
  rcases hy with hy | hy
  ·exact Ak hy
  ·exact absurd rfl (S.nofree _ (PySem.mem_of_lookup hy))
 ·exact le_of_lt (x.above y c (PySem.mem_of_lookup h))
 ·have hi:i<vs.length:=by
   unfold qW at h2
   by_cases hi:i<vs.length
   ·exact hi
   ·rw[getElem?_append_right (by simpa using hi)]at h2
    rw[List.getElem?_replicate]at h2
    split at h2 <;> cases h2
  have ha:vs[i]? = some v:=by
   unfold qW at h2
   rw[getElem?_append_left (by simpa using hi),getElem?_map]at h2
   cases e:vs[i]? with
   | none=>rw[e]at h2; cases h2
   | some a=>rw[e]at h2; cases h2; rfl
  obtain⟨u,hu,rv⟩:=r.get ha
  have hp:ps[i]? = some y:=by
   rw[<- S.pre,List.getElem?_take_of_lt (by omega)]; exact h1
  have ndP:ps.Nodup:=by rw[<- S.pre]; exact S.nd.sublist (List.take_sublist _ _)
  refine⟨u,rv,?_⟩
  rcases S.par y (mem_of_getElem? hp) with k | k
  ·exact .inl ⟨k,xH ndP hp hu k⟩
  ·obtain⟨c,e⟩:=Ak (n:=s.heap.objs.size+1) k
   refine .inr ⟨.inl k,c,e,?_⟩
   have q:=x.cell y c e
   rw[xJ ndP hp hu (by show scope.names.lookup y≠_; rw[k]; decide)]at q
   exact q
 ·exact e0.hok.fresh (le_of_lt (x.above y c (PySem.mem_of_lookup h)))
 ·unfold qW
  show _=N.length
  rw[length_append,length_map,List.length_replicate]
  omega
theorem fn_of {CX:CXT} {P:Program} {w:World} {K:PySem.W.Frag} {mg:Str->Option Value} {base:Heap} {k:Nat} {f:Addr} {name qual:Str} {params:Arguments} {body:List Stmt} {scope:Scope} {dV kV doc pm cdv ct oc:Value} {an od:Option Addr}
  {osl:Array (Option Value)} {N ps:List Str} {sp:Sp} (lk:K.lookup f=some ⟨oc,od,.func (fnOf name qual params body scope dV kV doc pm an cdv ct),osl⟩) (hcd:codeIn K cdv qual=true) (S:FnScope N ps scope)
  (len:∀ vs H Q E,sp vs H Q E->vs.length=ps.length)
  (hbody:∀ (A:Around) (outer:List Env) (s:Shared) (H:Hp) (vs:List V) (Q:VK) (E:XK),Room k (A.deeper (envOfC qual scope s.heap.objs.size f cdv))->sp vs H Q E->
   ∃ t,PSs (Bu CX P w K mg base N qual scope f cdv A outer s H E) body t/\t { nx:=fun _ H'=>Q .non H',rt:=Q } (qW N vs) H) :
  FnOk P w K mg base CX (k+1) f (fnOf name qual params body scope dV kV doc pm an cdv ct) ps sp:=by
 refine⟨len,fun A outer s H args us vs Q E hr e0 hb r hsp=>?_⟩
 have hl:=len _ _ _ _ hsp
 have KX:K.In s.heap:=e0.mod.kin.keeps fun b o e=>(e0.bs b o e).1
 have lim:s.heap.NoLimit:=e0.mod.nolimit.keeps fun b o e=>(e0.bs b o e).1
 have hkind:∀ y∈ps.zip us,scope.names.lookup y.1=some .local\/(scope.names.lookup y.1=some .cell/\((cellsFrom (s.heap.objs.size+1) scope.names []).lookup y.1).isSome=true):=fun⟨n,v⟩ hy=>by
  rcases S.par n (List.of_mem_zip hy).1 with q | q
  ·exact .inl q
  ·exact .inr ⟨q,PySem.W.cellsFrom_some _ _ _ (.inl q)⟩
 refine codeAny_call_function hr.depth (KX _ _ lk) rfl S.co S.gen rfl (PySem.W.codeRec_of KX hcd) (hb _ _ _ _ ?_)
 refine wpAny_newFunctionEnv_cells S.kind hkind fun env he s1 x=>?_
 subst he
 refine⟨lim.keeps x.toInCall.keep,codeAny_func ?_⟩
 obtain⟨t,ht,hq⟩:=hbody A outer s H vs Q E (hr.deeper _) hsp
 have I:Inv (Bu CX P w K mg base N qual scope f cdv A outer s H E) [] (qW N vs) H s1:=DT S hr.hd e0 hl r x
 refine wpAny_mono (ht [] s1 (qW N vs) H _ I hq) (fun fl s' hs=>?_) fun e s' hs=>hs
 have fin:∀ {σ':St} {H':Hp} {v:V} {u:Value},Inv (Bu CX P w K mg base N qual scope f cdv A outer s H E) [] σ' H' s'->bW v u->Q v H'->CE outer P w H s Q u s':=
  fun {σ' H' v u} J rv q=>⟨v,H',J.os,J.bare,J.base,J.hok,rv,q⟩
 cases fl with
 | ret u=>
  obtain⟨v,σ',H',J,rv,q⟩:=hs
  exact fin J rv q
 | next=>
  obtain⟨σ',H',J,q⟩:=hs
  exact fin (v:=V.non) (u:=Value.none) J rfl q
 | brk=>
  obtain⟨_,_,_,q⟩:=hs
  exact False.elim q
 | cont=>
  obtain⟨_,_,_,q⟩:=hs
  exact False.elim q
section
variable {X:Cx} {x:Str} {p pos:Pos} {e:Expr} {es:List Expr} {t:TA} {id T:String} {r:List V->Hp->VK->Prop}
def tCB (r:List V->Hp->VK->Prop) (t:TA):TE:=fun σ H Q=>t σ H fun vs H1=>r vs H1 Q
theorem aY (hc:eY X (.builtin id) r) (hg:Gl X x) (hm:X.mg x=none) (hv:bootBuiltins x=some (.builtin id)) (ha:PA X (e::es) t) (hn:x ≠ "__name__":=by decide) (hdb:(x == ("__debug__" : Str))=false:=by decide)
  (he:starEach (e::es) X.env=(false,eval e X.env)::starEach es X.env:=by rfl) (hpl:(backTo pos (starEach es X.env)).any (·.1)=false:=by rfl):PE X (.Call (.Name x p) (e::es) [] pos) (tCB r t):=by
 intro pins s σ H Q I h
 refine wpAny_Call_Name_kw (nV I hg hm hv ?_ hn hdb)
 exact PyProof.Rows.callWith_builtin1 (thn (ha pos pins s σ H _ I h) fun us s1 ⟨vs,H1,I1,r1,q1⟩=>hc pins s1 σ H1 vs us Q I1 r1 q1) he hpl
theorem iE (hc:eY X (.type T) r) (hg:Gl X x) (hm:X.mg x=none) (hv:bootBuiltins x=some (.type T)) (ha:PA X (e::es) t) (hn:x ≠ "__name__":=by decide) (hdb:(x == ("__debug__" : Str))=false:=by decide)
  (he:starEach (e::es) X.env=(false,eval e X.env)::starEach es X.env:=by rfl) (hpl:(backTo pos (starEach es X.env)).any (·.1)=false:=by rfl):PE X (.Call (.Name x p) (e::es) [] pos) (tCB r t):=by
 intro pins s σ H Q I h
 refine wpAny_Call_Name_kw (nV I hg hm hv ?_ hn hdb)
 exact PyProof.Rows.callWith_type1 (thn (ha pos pins s σ H _ I h) fun us s1 ⟨vs,H1,I1,r1,q1⟩=>hc pins s1 σ H1 vs us Q I1 r1 q1) he hpl
end
end L2
namespace HT
open PySem PyProof.Rows
section
open PySem.SeqAt
open PySem.AutoSeq1 (wpAny_loadPart')
open PySem.MeetsSeq PySem.MeetsSeq2 PySem.MeetsSeq3
end
section
variable {prog:Program} {w:World} {A:Around} {E:Value->Shared->Prop} {s:Shared}
theorem Gf {t b:Addr} {vs ws:List Value} {Q:Value->Shared->Prop} (ht:IsTup s.heap t vs.toArray) (hb:IsTup s.heap b ws.toArray) (hv:vs≠[])
  (h1:ws=[]->Q (.ref t) s) (h2:ws≠[]->Q (.ref s.heap.objs.size) { s with heap:=s.heap.push { cls:=.type "tuple",data:=.seq (vs++ws).toArray } })
  (hsz:vs.length+ws.length<=sizeLine):wpAny (model prog w) A (binaryOp .Add (.ref t) (.ref b)) Q E s:=by
 obtain⟨⟨cls,dd,data,sl⟩,ho,hc,n,hd⟩:=id ht
 obtain⟨⟨cls2,dd2,data2,sl2⟩,ho2,hc2,n2,hd2⟩:=id hb
 simp only at hc hd hc2 hd2
 subst hc hd hc2 hd2
 have e:vs.toArray++ws.toArray=(vs++ws).toArray:=by simp
 by_cases hw:ws=[]
 ·exact concat_meets ⟨_,ho,rfl⟩ ⟨_,ho2,rfl⟩ noFill_tuple_add seq_tuple_add PySem.F.slot_tuple_add PySem.F.entry_tuple_add (PySem.F.args_tuple_add_2 _ _)
   (tuple_addW1 t b vs.toArray ws.toArray n n2 dd dd2 sl sl2 (by simpa using hv) (by simp [hw])) ⟨ho,ho2,h1 hw⟩
 ·refine concat_meets ⟨_,ho,rfl⟩ ⟨_,ho2,rfl⟩ noFill_tuple_add seq_tuple_add PySem.F.slot_tuple_add PySem.F.entry_tuple_add (PySem.F.args_tuple_add_2 _ _)
   (tuple_addW2 t b vs.toArray ws.toArray n n2 dd dd2 sl sl2 (by simpa using hv) (by simpa using hw) (by rw[size_toArray,size_toArray]; exact hsz)) ⟨ho,ho2,?_⟩
  rw[e]
  exact h2 hw
noncomputable def sIx (n d:Nat):Option Int->Nat
 | none=>d
 | some v=>if v<0 then (v+(n:Int)).toNat else min v.toNat n
theorem tK (n d:Nat):sIx n d none=d:=rfl
theorem iZ (n d k:Nat):sIx n d (some (k:Int))=min k n:=by
 show (if (k:Int)<0 then ((k:Int)+(n:Int)).toNat else min (k:Int).toNat n)=min k n
 rw[if_neg (by omega),toNat_natCast]
theorem HB (n d:Nat) (hd:d<=n) (o:Option Int):sIx n d o<=n:=by
 cases o with
 | none=>exact hd
 | some v=>
  show (if v<0 then (v+(n:Int)).toNat else min v.toNat n)<=n
  by_cases hv:v<0
  ·rw[if_pos hv]; omega
  ·rw[if_neg hv]; exact Nat.min_le_right _ _
theorem Cj (v:Int) (n d:Nat):(if v<0 then max (v+(n:Int)) 0 else min v (n:Int))=((sIx n d (some v):Nat):Int):=by
 show (if v<0 then max (v+(n:Int)) 0 else min v (n:Int))=(((if v<0 then (v+(n:Int)).toNat else min v.toNat n):Nat):Int)
 by_cases hv:v<0
 ·simp only[if_pos hv]; omega
 ·simp only[if_neg hv]; omega
theorem By (lo hi:Option Int) (n:Nat):Builtin.Slice.sliceAdjust lo hi 1 (n:Int)=(((sIx n 0 lo:Nat):Int),((sIx n n hi:Nat):Int)):=by
 have h1:¬ ((1:Int)<0):=by omega
 unfold Builtin.Slice.sliceAdjust
 simp only[h1,if_false]
 refine Prod.ext ?_ ?_
 ·cases lo with
  | none=>rfl
  | some v=>exact Cj v n 0
 ·cases hi with
  | none=>rfl
  | some v=>exact Cj v n n
theorem BK (i j:Nat):Builtin.Slice.slicePlaces (i:Int) (j:Int) 1=j - i:=by
 unfold Builtin.Slice.slicePlaces
 have h1:(1:Int) > 0:=by omega
 simp only[h1,if_true,Int.ediv_one]
 split <;> omega
theorem sN {v:Value} {o:Option Int} {Q:Option Int->Shared->Prop} (p:IsPart v o) (h:Q o s):wpAny (model prog w) A (Builtin.Slice.slicePartIndex v) Q E s:=by
 cases p with
 | none=>exact slicePart_none h
 | int i t=>exact slicePart_int h
theorem jO {sl:Addr} {vl vu:Value} {lo hi:Option Int} {n:Nat} {Q:Int × Int × Nat->Shared->Prop} (hs:s.heap.IsSliceOf sl vl vu .none) (pl:IsPart vl lo) (pu:IsPart vu hi)
  (h:Q (((sIx n 0 lo:Nat):Int),1,sIx n n hi - sIx n 0 lo) s):wpAny (model prog w) A (Builtin.Slice.sliceApplied (.ref sl) (pure (n:Int))) Q E s:=by
 obtain⟨os,hos,hcs,hds⟩:=id hs
 unfold Builtin.Slice.sliceApplied Builtin.Slice.sliceFields
 refine wpAny_bind (wpAny_bind (wpAny_field hos hds (x:=vl) rfl (wpAny_bind (wpAny_field hos hds (x:=vu) rfl (wpAny_bind (wpAny_field hos hds (x:=.none) rfl (wpAny_pure ?_)))))))
 refine wpAny_bind (slicePart_none ?_)
 show wpAny _ _ (if ((1:Int) == 0)=true then _ else _) _ _ s
 rw[if_neg (by decide)]
 refine wpAny_bind (sN pl (wpAny_bind (sN pu (wpAny_bind (wpAny_pure ?_)))))
 show wpAny _ _ (match Builtin.Slice.sliceAdjust lo hi 1 (n:Int) with | (lo,hi)=>pure (lo,(1:Int),Builtin.Slice.slicePlaces lo hi 1)) _ _ s
 rw[By lo hi n]
 show wpAny _ _ (pure (((sIx n 0 lo:Nat):Int),(1:Int),Builtin.Slice.slicePlaces ((sIx n 0 lo:Nat):Int) ((sIx n n hi:Nat):Int) 1)) _ _ s
 rw[BK]
 exact wpAny_pure h
theorem EZ (xs:Array Value) (i k:Nat):((List.range k).filterMap fun(m:Nat)=>xs[((i:Int)+(m:Int) * 1).toNat]?).toArray=((xs.toList.drop i).take k).toArray:=by
 have e:(fun(m:Nat)=>xs[((i:Int)+(m:Int) * 1).toNat]?)=fun m=>xs[i+m]?:=by
  funext m
  have:((i:Int)+(m:Int) * 1).toNat=i+m:=by omega
  rw[this]
 rw[e]
 have:=pick_run xs i k
 rw[List.filterMap_map]at this
 have e2:((fun x=>xs[x]?) ∘ fun x=>i+x)=fun m=>xs[i+m]?:=rfl
 rw[e2]at this
 rw[this]
theorem o6 {t sl:Addr} {items:Array Value} {vl vu:Value} {lo hi:Option Int} {Q:Value->Shared->Prop} (ht:IsTup s.heap t items) (hs:s.heap.IsSliceOf sl vl vu .none) (pl:IsPart vl lo) (pu:IsPart vu hi)
  (hw:¬ (sIx items.size 0 lo=0/\sIx items.size items.size hi=items.size))
  (h:Q (.ref s.heap.objs.size) { s with heap:=s.heap.push { cls:=.type "tuple",data:=.seq ((items.toList.drop (sIx items.size 0 lo)).take (sIx items.size items.size hi - sIx items.size 0 lo)).toArray } })
  (hsz:items.size<=sizeLine):wpAny (model prog w) A (getItem (.ref t) (.ref sl)) Q E s:=by
 have htake:sizeOk (.seq ((items.toList.drop (sIx items.size 0 lo)).take (sIx items.size items.size hi - sIx items.size 0 lo)).toArray):=by
  show ((items.toList.drop (sIx items.size 0 lo)).take (sIx items.size items.size hi - sIx items.size 0 lo)).toArray.size<=sizeLine
  rw[size_toArray,length_take,length_drop,length_toList]
  omega
 have hj:sIx items.size items.size hi<=items.size:=HB _ _ (le_refl _) hi
 obtain⟨os,hos,hcs,hds⟩:=id hs
 have hTs:s.TypeIs (.ref sl) "slice":=⟨os,hos,hcs⟩
 unfold getItem
 try with_reducible refine wpAny_holding ?_
 first | refine wpAny_bind (wpAny_pure ?_) | skip
 refine wpAny_bind (wpAny_sequenceKey ht.typeIs (by decide) ?_)
 refine wpAny_bind (wpAny_callSpecial?_slot (name:=Str.ofString "__getitem__") ht.typeIs PyProof.Rows.slot_tuple_getitem
  (wpAny_call_entry PyProof.Rows.slot_tuple_getitem ht.typeIs entry_tuple_getitem ?_ (args_tuple_getitem _ _)))
 show wpAny _ _ (Builtin.Tuple.tupleItemsOf (.ref t) >>= _) _ _ s
 refine wpAny_bind (tupleItemsOf_ ht ?_)
 refine wpAny_bind (wpAny_typeOf hTs ?_)
 rw[if_pos (by decide)]
 refine wpAny_bind (jO hs pl pu ?_)
 have hno:¬ ((((sIx items.size 0 lo:Nat):Int) == 0 && (1:Int) == 1 && (sIx items.size items.size hi - sIx items.size 0 lo) == items.size)=true):=by
  intro q
  rw[and_eq_true,and_eq_true]at q
  have q1:((sIx items.size 0 lo:Nat):Int)=0:=eq_of_beq q.1.1
  have q2:sIx items.size items.size hi - sIx items.size 0 lo=items.size:=eq_of_beq q.2
  exact hw ⟨by omega,by omega⟩
 show wpAny _ _ (if (((sIx items.size 0 lo:Nat):Int) == 0 && (1:Int) == 1 && (sIx items.size items.size hi - sIx items.size 0 lo) == items.size)=true then _ else _) _ _ s
 rw[if_neg hno,EZ]
 first
  | exact wpAny_bind (m:=Builtin.Tuple.tupleExact _) (wpAny_newObj_type (wpAny_pure ⟨_,rfl,wpAny_pure h⟩) htake)
  | exact wpAny_bind (m:=Builtin.Tuple.tupleExact _) (wpAny_newObj_type (wpAny_bind (wpAny_pure (wpAny_pure ⟨_,rfl,wpAny_pure h⟩))) htake)
  | exact wpAny_bind (wpAny_bind (m:=Builtin.Tuple.tupleExact _) (wpAny_newObj_type (wpAny_pure (wpAny_pure ⟨_,rfl,wpAny_pure h⟩)) htake))
  | exact wpAny_bind (wpAny_bind (m:=Builtin.Tuple.tupleExact _) (wpAny_newObj_type (wpAny_pure ⟨_,rfl,wpAny_pure h⟩) htake))
end
end HT
namespace L2
open PySem PySem.Spec PyProof.Rows
noncomputable abbrev TO:=St->Hp->(Option Int->Hp->Prop)->Prop
def PO (X:Cx) (e:Option Expr) (t:TO):Prop:=
 ∀ (pins:List (Addr × Obj)) (s:Shared) (σ : St) (H:Hp) (Q:Option Int->Hp->Prop),Inv X pins σ H s->t σ H Q->
  wpAny (model X.prog X.w) X.A (evalPart e X.env) (fun u s'=>∃ o H',Inv X pins σ H' s'/\IsPart u o/\Q o H') X.xe s
def mM:TO:=fun _ H Q=>Q none H
def zM (t:TE):TO:=fun σ H Q=>t σ H fun x H1=>∃ i,x = .int i/\Q (some i) H1
section
variable {X:Cx} {e:Expr} {te:TE} {lo hi:Option Expr} {tl th:TO} {pos p2:Pos}
theorem gO:PO X none mM:=by
 intro pins s σ H Q I h
 rw[evalPart_none]
 exact wpAny_pure ⟨none,H,I,.none,h⟩
theorem fH (h:PE X e te):PO X (some e) (zM te):=by
 intro pins s σ H Q I hw
 rw[evalPart_some]
 refine thn (h pins s σ H _ I hw) fun u s1 zQq=>?_
 obtain⟨x,H1,I1,r1,q1⟩:=zQq
 obtain⟨i,rfl,q⟩:=q1
 obtain⟨t,rfl⟩:=r1
 exact⟨some i,H1,I1,.int i t,q⟩
def SlR (X:Cx) (r:V->Option Int->Option Int->Hp->VK->Prop):Prop:=
 ∀ (pins:List (Addr × Obj)) (s:Shared) (σ : St) (H:Hp) (x:V) (v vl vu:Value) (lo hi:Option Int) (sl:Addr) (Q:VK),Inv X pins σ H s->bW x v->s.heap.IsSliceOf sl vl vu .none->IsPart vl lo->IsPart vu hi->r x lo hi H Q->
  ∃ T id,typeLookup (.type T) "__getitem__" = pure (some (.builtin id))/\s.TypeIs v T/\wpAny (model X.prog X.w) X.A (getItem v (.ref sl)) (EP X pins σ Q) X.xe s
def tSl (r:V->Option Int->Option Int->Hp->VK->Prop) (te:TE) (tl th:TO):TE:=fun σ H Q=>te σ H fun x H1=>tl σ H1 fun l H2=>th σ H2 fun u H3=>r x l u H3 Q
theorem eI {r:V->Option Int->Option Int->Hp->VK->Prop} (hr:SlR X r) (he:PE X e te) (hl:PO X lo tl) (hu:PO X hi th):PE X (.Subscript e (.Slice lo hi none p2) pos) (tSl r te tl th):=by
 intro pins s σ H Q I h
 refine Subscript_ (thn (he pins s σ H _ I h) fun v s1 zQq=>?_)
 obtain⟨x,H1,I1,r1,q1⟩:=zQq
 refine wpAny_Slice (thn (hl pins s1 σ H1 _ I1 q1) fun vl s2 ⟨l,H2,I2,pl,q2⟩=>thn (hu pins s2 σ H2 _ I2 q2) fun vu s3 zQq=>?_)
 obtain⟨u,H3,I3,pu,q3⟩:=zQq
 rw[evalPart_none]
 refine wpAny_pure ?_
 have I4:Inv X pins σ H3 { s3 with heap:=s3.heap.push { cls:=.type "slice",data:=.fields #[vl,vu,.none] } }:=I3.kept (t':=s3.toks) fun b ob q=>get?_push_of_some _ q
 obtain⟨T,id,hT,ht,hg⟩:=hr pins { s3 with heap:=s3.heap.push { cls:=.type "slice",data:=.fields #[vl,vu,.none] } } σ H3 x v vl vu l u s3.heap.objs.size Q I4 r1 (Heap.IsSliceOf.new ..) pl pu q3
 show wpAny (model X.prog X.w) X.A (subscriptTail e (.Slice lo hi none p2) v (.ref s3.heap.objs.size)) (EP X pins σ Q) X.xe { s3 with heap:=s3.heap.push { cls:=.type "slice",data:=.fields #[vl,vu,.none] } }
 exact tail_any (ops:=[.ref s3.heap.objs.size,v]) ht hT hg (by with_unfolding_all rfl)
noncomputable def iU (xs:List V) (lo hi:Option Int):List V:=(xs.drop (HT.sIx xs.length 0 lo)).take (HT.sIx xs.length xs.length hi - HT.sIx xs.length 0 lo)
theorem rE (xs:List V) (lo hi:Option Int):(iU xs lo hi).length<=xs.length:=by
 unfold iU
 rw[length_take,length_drop]
 omega
def rSlT (K:PySem.W.Frag):V->Option Int->Option Int->Hp->VK->Prop:=fun x lo hi H Q=>∃ a xs,x = .ref a/\SqT K H a xs/\
 ¬ (HT.sIx xs.length 0 lo=0/\HT.sIx xs.length xs.length hi=xs.length)/\∀ p,H p=none->Q (.ref p) (upd H p (.tup (iU xs lo hi)))
theorem HA:SlR X (rSlT X.K):=by
 intro pins s σ H x v vl vu lo hi sl Q I rx hs pl pu h
 obtain⟨a,xs,rfl,hx,hw,q⟩:=h
 cases rx
 obtain⟨its,r,ht,hz⟩:=I.tuple hx
 have hlen:its.toArray.size=xs.length:=by rw[size_toArray]; exact r.length.symm
 refine⟨"tuple",_,PyProof.Rows.slot_tuple_getitem.lookup,ht.typeIs,?_⟩
 refine HT.o6 ht hs pl pu (by rw[hlen]; exact hw) ?_ (by rw[hlen]; exact hz)
 rw[hlen]
 refine⟨.ref s.heap.objs.size,_,I.laid (t':=s.toks) (o:=.tup (iU xs lo hi)) (fun b ob q=>get?_push_of_some _ q) (le_refl _) ?_,rfl,q _ (I.hok.fresh (le_refl _))⟩
 exact⟨le_trans (rE xs lo hi) hz,_,(r.drop (HT.sIx xs.length 0 lo)).take (HT.sIx xs.length xs.length hi - HT.sIx xs.length 0 lo),IsTup.new _ _⟩
def rCatT (K:PySem.W.Frag):R2:=fun x y H Q=>∃ a b xs ys,x = .ref a/\y = .ref b/\SqT K H a xs/\SqT K H b ys/\xs≠[]/\xs.length+ys.length<=sizeLine/\
 (ys=[]->Q (.ref a) H)/\(ys≠[]->∀ p,H p=none->Q (.ref p) (upd H p (.tup (xs++ys))))
theorem bQ.nil_iff {xs:List V} {us:List Value} (r:bQ xs us):us=[] ↔ xs=[]:=by
 cases r with
 | nil=>simp
 | cons _ _=>simp
theorem F9:OpR X (binaryOp .Add) (rCatT X.K):=by
 intro pins s σ H x y v u Q I rx ry h
 obtain⟨a,b,xs,ys,rfl,rfl,ha,hb,hx,hz,q1,q2⟩:=h
 cases rx
 cases ry
 obtain⟨its,r1,p1,_⟩:=I.tuple ha
 obtain⟨its2,r2,p2,_⟩:=I.tuple hb
 refine HT.Gf p1 p2 (fun z=>hx (r1.nil_iff.mp z)) (fun z=>⟨.ref a,H,I,rfl,q1 (r2.nil_iff.mp z)⟩) (fun z=>?_) (by rw[<- r1.length,<- r2.length]; exact hz)
 refine⟨.ref s.heap.objs.size,_,I.laid (t':=s.toks) (o:=.tup (xs++ys)) (fun b ob q=>get?_push_of_some _ q) (le_refl _) ?_,rfl,q2 (fun w=>z (r2.nil_iff.mpr w)) _ (I.hok.fresh (le_refl _))⟩
 exact⟨by rw[length_append]; exact hz,_,r1.append r2,IsTup.new _ _⟩
end
noncomputable def ixN (n:Nat) (i:Int):Option Nat:=if 0<=i then (if i<n then some i.toNat else none) else if -(n:Int)<=i then some (i+n).toNat else none
noncomputable def atI {α : Type} (xs:List α) (i:Int):Option α:=(ixN xs.length i).bind fun j=>xs[j]?
theorem GT {n:Nat} {i:Int} {j:Nat} (h:ixN n i=some j):seqIndex? i n=some j/\j<n/\-(n:Int)<=i/\i<n:=by
 unfold ixN at h
 by_cases h0:0<=i
 ·rw[if_pos h0]at h
  by_cases h1:i<n
  ·rw[if_pos h1]at h
   have e:i.toNat=j:=Option.some.inj h
   exact⟨by rw[seqIndex_of h0 h1,e],by omega,by omega,h1⟩
  ·rw[if_neg h1]at h; cases h
 ·rw[if_neg h0]at h
  by_cases h1:-(n:Int)<=i
  ·rw[if_pos h1]at h
   have e:(i+n).toNat=j:=Option.some.inj h
   exact⟨by rw[seqIndex_neg (by omega) h1,e],by omega,h1,by omega⟩
  ·rw[if_neg h1]at h; cases h
theorem Cl {α : Type} {xs:List α} {i:Int} {v:α} (h:atI xs i=some v):∃ j,seqIndex? i xs.length=some j/\xs[j]? = some v/\j<xs.length/\-(xs.length:Int)<=i/\i<xs.length:=by
 unfold atI at h
 cases e:ixN xs.length i with
 | none=>rw[e]at h; cases h
 | some j=>
  rw[e]at h
  obtain⟨h1,h2,h3,h4⟩:=GT e
  exact⟨j,h1,h,h2,h3,h4⟩
theorem bS {α : Type} {xs:List α} {j:Nat} {v:α} (h:xs[j]? = some v):atI xs (j:Int)=some v:=by
 have hj:j<xs.length:=(List.getElem?_eq_some_iff.mp h).1
 have e:ixN xs.length (j:Int)=some j:=by
  unfold ixN
  rw[if_pos (by omega),if_pos (by omega)]; simp
 unfold atI; rw[e]; exact h
def Gk (b:Expr):Prop:=∀ o i,subscripted b false o i=operate [o,i] (getItem o i)
def IxR (X:Cx) (r:R2):Prop:=
 ∀ (value slice:Expr) (pins:List (Addr × Obj)) (s:Shared) (σ : St) (H:Hp) (x y:V) (v u:Value) (Q:VK),Inv X pins σ H s->bW x v->bW y u->r x y H Q->
  subscripted slice false v u=operate [v,u] (getItem v u)->wpAny (model X.prog X.w) X.A (subscriptTail value slice v u) (EP X pins σ Q) X.xe s
def MtR (X:Cx) (id:String) (r:V->List V->Hp->VK->Prop):Prop:=
 ∀ (pins:List (Addr × Obj)) (s:Shared) (σ : St) (H:Hp) (x:V) (xs:List V) (v:Value) (us:List Value) (Q:VK),Inv X pins σ H s->bW x v->bQ xs us->r x xs H Q->
  wpAny (model X.prog X.w) X.A (call (.builtin id) (v::us)) (EP X pins σ Q) X.xe s
section
variable {X:Cx} {a b:Expr} {ta tb:TE} {pos:Pos}
theorem cX {r:R2} (hr:IxR X r) (ha:PE X a ta) (hb:PE X b tb) (hs:Gk b):PE X (.Subscript a b pos) (tOp r ta tb):=by
 intro pins s σ H Q I h
 exact Subscript_ (Hv ha hb I h fun v u s2 x y H2 I2 rx ry q=>hr a b pins s2 σ H2 x y v u Q I2 rx ry q (hs _ _))
def HF (K:PySem.W.Frag):R2:=fun x y H Q=>∃ p xs i v,x = .ref p/\y = .int i/\SqL K H p xs/\atI xs i=some v/\Q v H
def qF (K:PySem.W.Frag):R2:=fun x y H Q=>∃ p xs i v,x = .ref p/\y = .int i/\SqT K H p xs/\atI xs i=some v/\Q v H
theorem GS:IxR X (HF X.K):=by
 intro value slice pins s σ H x y v u Q I rx ry h hs
 obtain⟨p,xs,i,z,rfl,rfl,hq,he,q⟩:=h
 cases rx
 obtain⟨t,rfl⟩:=ry
 obtain⟨its,r,pl,hz⟩:=I.list hq
 obtain⟨j,h1,h2,h3,h4,h5⟩:=Cl he
 obtain⟨w,ew,rw'⟩:=r.get h2
 have hl:=r.length
 have hn:=uG
 have fin:EP X pins σ Q w s:=⟨z,H,I,rw',q⟩
 by_cases h0:0<=i
 ·have hj:i.toNat=j:=by
   rw[seqIndex_of h0 h5]at h1
   exact Option.some.inj h1
  exact item_listR pl.isList h0 (by omega) (by rw[hj]; simpa using ew) fin hs
 ·have hj:(i+(its.toArray.size:Int)).toNat=j:=by
   rw[seqIndex_neg (by omega) h4]at h1
   rw[size_toArray,<- hl]
   exact Option.some.inj h1
  exact subscriptTail_builtinR (x:=w) pl.isList.typeIs slot_list_getitem.lookup
   (wpAny_getItem_list_neg (Q:=fun r s'=>r=w/\EP X pins σ Q r s') pl.isList (by omega) (by rw[size_toArray] <;> omega) (by omega) (by rw[hj]; simpa using ew) ⟨rfl,fin⟩) hs
theorem He:IxR X (qF X.K):=by
 intro value slice pins s σ H x y v u Q I rx ry h hs
 obtain⟨p,xs,i,z,rfl,rfl,hq,he,q⟩:=h
 cases rx
 obtain⟨t,rfl⟩:=ry
 obtain⟨its,r,pl,hz⟩:=I.tuple hq
 obtain⟨j,h1,h2,h3,h4,h5⟩:=Cl he
 obtain⟨w,ew,rw'⟩:=r.get h2
 have hl:=r.length
 have hn:=uG
 have fin:EP X pins σ Q w s:=⟨z,H,I,rw',q⟩
 exact subscriptTail_builtinR (x:=w) pl.typeIs slot_tuple_getitem.lookup
  (getItem_tuple (j:=j) (Q:=fun r s'=>r=w/\EP X pins σ Q r s') pl (by omega) (by omega) (by rw[size_toArray,<- hl]; exact h1) (by simpa using ew) ⟨rfl,fin⟩) hs
theorem xT (lo hi:Option Int) (n:Nat):(sliceBounds lo hi none n).1=((HT.sIx n 0 lo:Nat):Int)/\(sliceBounds lo hi none n).2.1=((HT.sIx n n hi:Nat):Int)/\(sliceBounds lo hi none n).2.2=1:=by
 refine⟨?_,?_,rfl⟩
 ·cases lo with
  | none=>simp [sliceBounds,HT.sIx]
  | some i=>
   simp only[sliceBounds,HT.sIx,Option.getD_none,show (1:Int) > 0 by decide,if_true]
   by_cases h:i<0
   ·simp only[h,if_true] <;> omega
   ·simp only[h,if_false] <;> omega
 ·cases hi with
  | none=>simp [sliceBounds,HT.sIx]
  | some i=>
   simp only[sliceBounds,HT.sIx,Option.getD_none,show (1:Int) > 0 by decide,if_true]
   by_cases h:i<0
   ·simp only[h,if_true] <;> omega
   ·simp only[h,if_false] <;> omega
theorem vA (its:List Value) (lo hi:Option Int):slicePick its.toArray lo hi none=((its.drop (HT.sIx its.length 0 lo)).take (HT.sIx its.length its.length hi - HT.sIx its.length 0 lo)).toArray:=by
 obtain⟨h1,h2,h3⟩:=xT lo hi its.toArray.size
 unfold slicePick
 rw[h1,h2,h3]
 simp only[sliceRange_one,pick_run,size_toArray] <;> rfl
def rSlL (K:PySem.W.Frag):V->Option Int->Option Int->Hp->VK->Prop:=fun x lo hi H Q=>∃ a xs,x = .ref a/\SqL K H a xs/\∀ p,H p=none->Q (.ref p) (upd H p (.lst (iU xs lo hi)))
theorem Fq:SlR X (rSlL X.K):=by
 intro pins s σ H x v vl vu lo hi sl Q I rx hs pl pu h
 obtain⟨a,xs,rfl,hx,q⟩:=h
 cases rx
 obtain⟨its,r,ht,hz⟩:=I.list hx
 have hlen:=r.length
 refine⟨"list",_,slot_list_getitem.lookup,ht.isList.typeIs,?_⟩
 refine wpAny_getItem_list_slice ht.isList hs pl pu .none (by simp) ?_ (by rw[size_toArray] <;> omega)
 rw[vA,<- hlen]
 refine⟨.ref s.heap.objs.size,_,I.laid (t':=s.toks) (o:=.lst (iU xs lo hi)) (fun b ob q=>get?_push_of_some _ q) (le_refl _) ?_,rfl,q _ (I.hok.fresh (le_refl _))⟩
 exact⟨le_trans (rE xs lo hi) hz,_,0,(r.drop (HT.sIx xs.length 0 lo)).take (HT.sIx xs.length xs.length hi - HT.sIx xs.length 0 lo),get?_push_size _ rfl⟩
noncomputable def nC:V->Bool
 | .non=>true
 | .bl _=>true
 | .int _=>true
 | .str _=>true
 | _=>false
noncomputable def eqV:V->V->Bool
 | .non,.non=>true
 | .bl a,.bl b=>a == b
 | .bl a,.int b=>(if a then 1 else 0) == b
 | .int a,.bl b=>a == (if b then 1 else 0)
 | .int a,.int b=>a == b
 | .str a,.str b=>a == b
 | _,_=>false
theorem Hl {A:Around} {s:Shared} {y x:V} {u v:Value} (ry:bW y u) (rx:bW x v) (fy:nC y=true) (fx:nC x=true):SeqAt.EqAt A s u v (eqV y x):=by
 cases y with
 | non=>
  cases ry
  cases x with
  | non=>cases rx; exact SeqAt.EqAt.same _
  | bl b=>cases rx; exact SeqAt.EqAt.none_bool b
  | int b=>obtain⟨t,rfl⟩:=rx; exact SeqAt.EqAt.none_int b t
  | str b=>obtain⟨t,rfl⟩:=rx; exact SeqAt.EqAt.none_str b t
  | _=>exact absurd (show false=true from fx) Bool.false_ne_true
 | bl a=>
  cases ry
  cases x with
  | non=>cases rx; exact SeqAt.EqAt.bool_none a
  | bl b=>cases rx; exact SeqAt.EqAt.bool_bool a b
  | int b=>obtain⟨t,rfl⟩:=rx; exact SeqAt.EqAt.bool_int a b t
  | str b=>obtain⟨t,rfl⟩:=rx; exact SeqAt.EqAt.bool_str a b t
  | _=>exact absurd (show false=true from fx) Bool.false_ne_true
 | int a=>
  obtain⟨t',rfl⟩:=ry
  cases x with
  | non=>cases rx; exact SeqAt.EqAt.int_none a t'
  | bl b=>cases rx; exact SeqAt.EqAt.int_bool a t' b
  | int b=>obtain⟨t,rfl⟩:=rx; exact SeqAt.EqAt.int_int a t' b t
  | str b=>obtain⟨t,rfl⟩:=rx; exact SeqAt.EqAt.int_str a t' b t
  | _=>exact absurd (show false=true from fx) Bool.false_ne_true
 | str a=>
  obtain⟨t',rfl⟩:=ry
  cases x with
  | non=>cases rx; exact SeqAt.EqAt.str_none a t'
  | bl b=>cases rx; exact SeqAt.EqAt.str_bool a t' b
  | int b=>obtain⟨t,rfl⟩:=rx; exact SeqAt.EqAt.str_int a t' b t
  | str b=>obtain⟨t,rfl⟩:=rx; exact SeqAt.EqAt.str_str a t' b t
  | _=>exact absurd (show false=true from fx) Bool.false_ne_true
 | _=>exact absurd (show false=true from fy) Bool.false_ne_true
noncomputable def eqU (x:V) (u:Value):Bool:=match u with
 | .none=>eqV .non x
 | .bool b=>eqV (.bl b) x
 | .int i _=>eqV (.int i) x
 | .str z _=>eqV (.str z) x
 | _=>false
theorem FK {x y:V} {u:Value} (r:bW y u) (f:nC y=true):eqU x u=eqV y x:=by
 cases y with
 | non=>cases r; rfl
 | bl b=>cases r; rfl
 | int i=>obtain⟨t,rfl⟩:=r; rfl
 | str z=>obtain⟨t,rfl⟩:=r; rfl
 | _=>exact absurd (show false=true from f) Bool.false_ne_true
theorem pA {x:V}:∀ {xs:List V} {us:List Value},bQ xs us->xs.all nC=true->us.any (eqU x)=xs.any fun y=>eqV y x
 | _,_,.nil,_=>rfl
 | y::xs,u::us,.cons r t,f=>by
  rw[all_cons,and_eq_true]at f
  rw[any_cons,any_cons,FK r f.1,pA t f.2]
theorem mC {A:Around} {s:Shared} {x:V} {v:Value} (rx:bW x v) (fx:nC x=true):∀ {xs:List V} {us:List Value},bQ xs us->xs.all nC=true->∀ u∈us,SeqAt.EqAt A s u v (eqU x u)
 | _,_,.nil,_=>fun u hu=>by cases hu
 | y::xs,u::us,.cons r t,f=>fun u' hu=>by
  rw[all_cons,and_eq_true]at f
  rcases mem_cons.mp hu with rfl | hu
  ·rw[FK r f.1]; exact Hl r rx f.1 fx
  ·exact mC rx fx t f.2 u' hu
noncomputable def inV (x:V) (xs:List V):Bool:=xs.any fun y=>eqV y x
def rIn (K:PySem.W.Frag) (neg:Bool):R2:=fun x y H Q=>∃ p xs,y = .ref p/\(SqL K H p xs\/SqT K H p xs)/\nC x=true/\xs.all nC=true/\Q (.bl (if neg then !inV x xs else inV x xs)) H
theorem C8:OpR X (compareOp .In) (rIn X.K false):=by
 intro pins s σ H x y v u Q I rx ry h
 obtain⟨p,xs,rfl,hq,fx,fs,q⟩:=h
 cases ry
 rcases hq with hq | hq
 ·obtain⟨its,r,pl,hz⟩:=I.list hq
  refine SeqAt.in_listAt (eqU x) pl.isList (fun w hw=>mC rx fx r fs w (by simpa using hw)) ⟨.bl _,H,I,rfl,?_⟩
  rw[show its.toArray.any (eqU x)=its.any (eqU x) by simp,pA r fs]
  exact q
 ·obtain⟨its,r,pl,hz⟩:=I.tuple hq
  refine SeqAt.in_tupleAt (eqU x) pl (fun w hw=>mC rx fx r fs w (by simpa using hw)) ⟨.bl _,H,I,rfl,?_⟩
  rw[show its.toArray.any (eqU x)=its.any (eqU x) by simp,pA r fs]
  exact q
theorem yI:OpR X (compareOp .NotIn) (rIn X.K true):=by
 intro pins s σ H x y v u Q I rx ry h
 obtain⟨p,xs,rfl,hq,fx,fs,q⟩:=h
 cases ry
 rcases hq with hq | hq
 ·obtain⟨its,r,pl,hz⟩:=I.list hq
  refine SeqAt.notIn_listAt (eqU x) pl.isList (fun w hw=>mC rx fx r fs w (by simpa using hw)) ⟨.bl _,H,I,rfl,?_⟩
  rw[show its.toArray.any (eqU x)=its.any (eqU x) by simp,pA r fs]
  exact q
 ·obtain⟨its,r,pl,hz⟩:=I.tuple hq
  refine SeqAt.notIn_tupleAt (eqU x) pl (fun w hw=>mC rx fx r fs w (by simpa using hw)) ⟨.bl _,H,I,rfl,?_⟩
  rw[show its.toArray.any (eqU x)=its.any (eqU x) by simp,pA r fs]
  exact q
theorem zF:eY X (.builtin "len") (fun xs H Q=>∃ p ys,xs=[.ref p]/\(SqL X.K H p ys\/SqT X.K H p ys)/\Q (.int ys.length) H):=by
 intro pins s σ H xs us Q I r h
 obtain⟨p,ys,rfl,hq,q⟩:=h
 obtain⟨u,rfl,rx⟩:=vS r
 cases rx
 have hn:=uG
 rcases hq with hq | hq
 ·obtain⟨its,r',pl,hz⟩:=I.list hq
  have hlen:=r'.length
  exact Calls.call_len_list pl.isList (by simp only[size_toArray] <;> omega) ⟨.int ys.length,H,I.tok _,⟨s.toks+1,by rw[size_toArray,hlen]⟩,q⟩
 ·obtain⟨its,r',pl,hz⟩:=I.tuple hq
  have hlen:=r'.length
  exact len_tuple pl (by simp only[size_toArray] <;> omega) ⟨.int ys.length,H,I.tok _,⟨s.toks+1,by rw[size_toArray,hlen]⟩,q⟩
theorem zE:eY X (.builtin "len") (fun xs H Q=>∃ z,xs=[.str z]/\z.length<=sizeLine/\Q (.int z.length) H):=by
 intro pins s σ H xs us Q I r h
 obtain⟨z,rfl,hz,q⟩:=h
 obtain⟨u,rfl,t,rfl⟩:=vS r
 have hn:=uG
 exact len_str (by omega) ⟨.int z.length,H,I.tok _,⟨_,rfl⟩,q⟩
theorem vR:eY X (.type "tuple") (fun xs H Q=>∃ p ys,xs=[.ref p]/\((SqL X.K H p ys/\∀ l,H l=none->Q (.ref l) (upd H l (.tup ys)))\/(SqT X.K H p ys/\Q (.ref p) H))):=by
 intro pins s σ H xs us Q I r h
 obtain⟨p,ys,rfl,h⟩:=h
 obtain⟨u,rfl,rx⟩:=vS r
 cases rx
 rcases h with ⟨hq,q⟩ | ⟨hq,q⟩
 ·obtain⟨its,r',pl,hz⟩:=I.list hq
  have hlen:=r'.length
  refine call_tuple_list pl.isList (fun h' kp=>?_) (by simp only[size_toArray] <;> omega)
  have I1:Inv X pins σ H { s with heap:=h' }:=I.kept (t':=s.toks) kp
  have I2:Inv X pins σ (upd H h'.objs.size (.tup ys)) { s with heap:=h'.push { cls:=.type "tuple",data:=.seq its.toArray } }:=
   I1.laid (t':=s.toks) (fun b o e=>get?_push_of_some _ e) (le_refl _) (show dC X.prog X.w _ _ _ (.tup ys) from ⟨hz,its,r',IsTup.new _ _⟩)
  exact⟨.ref h'.objs.size,_,I2,rfl,q _ (I1.hok.fresh (le_refl _))⟩
 ·obtain⟨its,r',pl,hz⟩:=I.tuple hq
  exact call_tuple_same pl ⟨.ref p,H,I,rfl,q⟩
def tyV (K:PySem.W.Frag) (T:String) (x:V) (H:Hp):Prop:=match x with
 | .str _=>T = "str"
 | .int _=>T = "int"
 | .ref p=>(T = "list"/\∃ xs,SqL K H p xs)\/(T = "tuple"/\∃ o,K.lookup p=some o/\o.cls = .type "tuple"/\o.dict=none)\/
   (T = "dict"/\((∃ kvs,H p=some (.dK kvs))\/∃ kvs,H p=some (.dT kvs)))\/(T = "set"/\∃ S n,H p=some (.set S n))
 | _=>False
theorem G3 {pins:List (Addr × Obj)} {σ : St} {H:Hp} {s:Shared} {T:String} {x:V} {v:Value} (I:Inv X pins σ H s) (r:bW x v) (ty:tyV X.K T x H) :
  s.TypeIs v T/\∀ a,v = .ref a->∃ ob,s.heap.get? a=some ob/\ob.dict=none:=by
 cases x with
 | str z=>
  obtain⟨t,rfl⟩:=r
  cases (show T = "str" from ty)
  exact⟨typeIs_str s z t,fun _ e=>nomatch e⟩
 | int i=>
  obtain⟨t,rfl⟩:=r
  cases (show T = "int" from ty)
  exact⟨typeIs_int s i t,fun _ e=>nomatch e⟩
 | ref p=>
  cases r
  rcases ty with ⟨rfl,xs,hq⟩ | ⟨rfl,o,hk,hc,hd⟩ | ⟨rfl,hk⟩ | ⟨rfl,S,n,hk⟩
  ·obtain⟨its,_,pl,_⟩:=I.list hq
   refine⟨pl.isList.typeIs,fun a e=>?_⟩
   cases e
   obtain⟨o,n,e,c,hd,_⟩:=pl
   exact⟨o,e,hd⟩
  ·refine⟨⟨o,I.kIn p o hk,hc⟩,fun a e=>?_⟩
   cases e
   exact⟨o,I.kIn _ o hk,hd⟩
  ·have z:∃ o,s.heap.get? p=some o/\o.ExactDict:=by
    rcases hk with ⟨kvs,hk⟩ | ⟨kvs,hk⟩
    ·obtain⟨_,_,_,_,o,_,_,e,ex,_⟩:=I.hok p _ hk
     exact⟨o,e,ex⟩
    ·obtain⟨_,_,_,_,o,_,_,e,ex,_⟩:=I.hok p _ hk
     exact⟨o,e,ex⟩
   obtain⟨o,e,ex⟩:=z
   refine⟨⟨o,e,ex.1⟩,fun a e2=>?_⟩
   cases e2
   exact⟨o,e,ex.2.1⟩
  ·obtain⟨o,_,_,_,e,ex,_⟩:=I.hok p _ hk
   refine⟨⟨o,e,ex.1⟩,fun a e2=>?_⟩
   cases e2
   exact⟨o,e,ex.2.1⟩
 | _=>exact False.elim ty
def tBM (K:PySem.W.Frag) (T:String) (r:V->List V->Hp->VK->Prop) (to:TE) (t:TA):TE:=fun σ H Q=>to σ H fun x H1=>tyV K T x H1/\t σ H1 fun xs H2=>r x xs H2 Q
variable {o e:Expr} {es:List Expr} {to:TE} {t:TA} {name:Str} {apos cpos:Pos} {T id:String} {r:V->List V->Hp->VK->Prop}
theorem pe_bm (pa:PlainAttrs T) (slot:Slot T name id) (hty:typeOf (.builtin id)=pure (.type "method_descriptor")) (hm:MtR X id r) (ho:PE X o to) (ha:PA X (e::es) t)
  (hbase:attributeBase o name X.env (eval o X.env)=eval o X.env:=by rfl)
  (hfew:((backTo cpos (starEach (e::es) X.env)).all (fun x=>!x.1) && (backToKw cpos (keywordEach [] X.env)).all (fun x=>x.1.isSome)
   && decide ((e::es).length+([]:List Keyword).length+(if ([]:List Keyword).isEmpty then 0 else 1)<30))=true:=by rfl)
  (hline:(apos.endLine == cpos.line)=true:=by rfl) (hs:starEach (e::es) X.env=(false,eval e X.env)::starEach es X.env:=by rfl) (hplain:(backTo cpos (starEach es X.env)).any (·.1)=false:=by rfl) :
  PE X (.Call (.Attribute o name apos) (e::es) [] cpos) (tBM X.K T r to t):=by
 intro pins s σ H Q I h
 refine wpAny_Call_method_late hbase hfew hline rfl (thn (ho pins s σ H _ I h) fun v s1 zQq=>?_)
 obtain⟨x,H1,I1,r1,ty,q1⟩:=zQq
 obtain⟨h1,h2⟩:=G3 I1 r1 ty
 refine⟨T,id,pa,slot,hty,h1,h2,?_⟩
 have hA:=ha cpos pins s1 σ H1 _ I1 q1
 rw[hs]at hA ⊢
 refine Calls.callWith_builtin (by show (false || (backTo cpos (starEach es X.env)).any (·.1))=false; rw[hplain] <;> rfl) (Calls.evalArgs_plain ?_)
 exact thn hA fun us s2 ⟨vs,H2,I2,r2,q2⟩=>hm pins s2 σ H2 x vs v us Q I2 r1 r2 q2
end
def MtM (X:Cx) (id:String) (r:V->List V->Hp->VK->Prop):Prop:=
 ∀ (pins:List (Addr × Obj)) (s:Shared) (σ : St) (H:Hp) (x:V) (xs:List V) (v:Value) (us:List Value) (Q:VK),Inv X pins σ H s->bW x v->bQ xs us->r x xs H Q->
  wpAny (model X.prog X.w) X.A (call (.builtin id) (v::us)) (EP X pins σ Q) X.xe s
theorem bQ.one:∀ {x:V} {us:List Value},bQ [x] us->∃ u,us=[u]/\bW x u
 | _,_,.cons r .nil=>⟨_,rfl,r⟩
theorem bQ.rep {xs:List V} {us:List Value} (h:bQ xs us):∀ k:Nat,bQ (List.replicate k xs).flatten (List.replicate k us).flatten
 | 0=>.nil
 | k+1=>by
  rw[replicate_succ,replicate_succ,flatten_cons,flatten_cons]
  exact bQ.append h (bQ.rep h k)
theorem wU (its:List Value):∀ (k:Nat) (acc:List Value),
  List.foldl (fun x1 x2=>x1++x2) acc.toArray (List.replicate k its.toArray)=(acc++(List.replicate k its).flatten).toArray
 | 0,acc=>by simp
 | k+1,acc=>by
  have e:acc.toArray++its.toArray=(acc++its).toArray:=by simp
  have e2:(acc++its)++(List.replicate k its).flatten=acc++(List.replicate (k+1) its).flatten:=by
   rw[replicate_succ,flatten_cons,append_assoc]
  rw[<- e2,<- wU its k (acc++its),<- e,replicate_succ,List.foldl_cons]
section
variable {X:Cx} {pins:List (Addr × Obj)} {σ : St} {H:Hp} {s:Shared} {l b:Addr} {xs ys zs:List V}
theorem Inv.lset {its its':List Value} {n:Nat} {f:Array Value->Array Value} {t':Nat} (I:Inv X pins σ H s) (hH:H l=some (.lst xs))
  (e:s.heap.get? l=some { cls:=.type "list",data:=.seq its.toArray n }) (hf:f its.toArray=its'.toArray) (hv:bQ ys its') (hz:ys.length<=sizeLine) :
  Inv X pins σ (upd H l (.lst ys)) { s with heap:=s.heap.update l (Obj.mapSeq f),toks:=t' }:=by
 have q:=PySem.IsL.update e f
 rw[hf]at q
 refine I.write (x:=l) (e:=l) (by rw[hH]; exact trivial) (.inl rfl) (fun b' u hb hu=>(Heap.get?_update_other s.heap (Obj.mapSeq f) (Ne.symm hb)).trans hu) ⟨_,q⟩ ?_
 exact⟨hz,its',_,hv,q⟩
theorem Inv.lstM (I:Inv X pins σ H s) (hH:H l=some (.lst xs)):xs.length<=sizeLine/\∃ (its:List Value) (n:Nat),bQ xs its/\xs.length=its.length/\s.heap.get? l=some { cls:=.type "list",data:=.seq its.toArray n }:=by
 obtain⟨z,its,n,r,e⟩:=I.hok l _ hH
 exact⟨z,its,n,r,r.length,e⟩
end
section
variable {X:Cx}
def CG:V->List V->Hp->VK->Prop:=fun x vs H Q=>∃ l xs y,x = .ref l/\vs=[y]/\H l=some (.lst xs)/\xs.length<sizeLine/\Q .non (upd H l (.lst (xs++[y])))
theorem kA:MtM X "list.append" CG:=by
 intro pins s σ H x vs v us Q I rx rv h
 obtain⟨l,xs,y,rfl,rfl,hH,hz,q⟩:=h
 cases rx
 obtain⟨u,rfl,ru⟩:=rv.one
 obtain⟨z,its,n,r,hl,e⟩:=I.lstM hH
 refine call_meets F.slot_list_append ⟨_,e,rfl⟩ F.entry_list_append (F.args_list_append_2 _ _) (PySem.list_append l its.toArray n u (by rw[size_toArray]; omega)) ⟨e,?_⟩
 refine⟨.non,_,I.lset (its':=its++[u]) hH e (by simp) (r.append (.cons ru .nil)) ?_,rfl,q⟩
 rw[length_append,List.length_singleton]
 omega
end
section
variable {prog:Program} {w:World} {A:Around} {E:Value->Shared->Prop} {s:Shared}
end
section
variable {X:Cx}
end
section
variable {κ : Type} [DecidableEq κ]
noncomputable def dS (kvs:List (κ × V)) (k:κ):Option V:=(kvs.find? fun kv=>decide (kv.1=k)).map (·.2)
noncomputable def iB (kvs:List (κ × V)) (k:κ) (v:V):List (κ × V):=
 if (kvs.any fun kv=>decide (kv.1=k))=true then kvs.map (fun kv=>if kv.1=k then (kv.1,v) else kv) else kvs++[(k,v)]
noncomputable def hJ (kvs:List (κ × V)) (k:κ):List (κ × V):=kvs.filter fun kv=>decide (kv.1≠k)
theorem iH {p:κ × V} {r:List (κ × V)} {k:κ} (e:p.1=k):dS (p::r) k=some p.2:=by simp [dS,find?_cons,e]
theorem iI {p:κ × V} {r:List (κ × V)} {k:κ} (e:¬ p.1=k):dS (p::r) k=dS r k:=by simp [dS,find?_cons,e]
theorem nY (k:κ):∀ kvs:List (κ × V),(kvs.any fun kv=>decide (kv.1=k))=(dS kvs k).isSome
 | []=>rfl
 | p::r=>by
  rw[any_cons]
  by_cases e:p.1=k
  ·simp only[iH e,decide_eq_true e,Bool.true_or,Option.isSome_some]
  ·rw[iI e,decide_eq_false e,Bool.false_or]; exact nY k r
theorem rB (kvs:List (κ × V)) (k:κ) (v:V):(iB kvs k v).length<=kvs.length+1:=by
 unfold iB
 split
 ·rw[length_map]; omega
 ·rw[length_append,length_cons,List.length_nil]; omega
theorem EY {kvs:List (κ × V)} {k:κ} (v:V) (h:dS kvs k=none):iB kvs k v=kvs++[(k,v)]:=by
 unfold iB
 rw[nY,h]
 exact if_neg (by decide)
theorem mI.isSome_eq {o:Option V} {u:Option Value} (r:mI o u):o.isSome=u.isSome:=by
 cases o with
 | none=>cases u with
  | none=>rfl
  | some _=>exact(show False from r).elim
 | some _=>cases u with
  | none=>exact(show False from r).elim
  | some _=>rfl
theorem KV.val {kvs:List (κ × V)} {vs:List (κ × Value)} (r:KV kvs vs) (k:κ):mI (dS kvs k) (valueAt vs k):=by
 unfold KV at r
 induction r with
 | nil=>exact True.intro
 | @cons p q ps qs h t ih=>
  obtain⟨h1,h2⟩:=h
  by_cases e:p.1=k
  ·have e':q.1=k:=h1.symm.trans e
   have b:valueAt (q::qs) k=some q.2:=by simp [valueAt,find?_cons,e']
   rw[iH e,b]; exact h2
  ·have e':¬ q.1=k:=fun z=>e (h1.trans z)
   have b:valueAt (q::qs) k=valueAt qs k:=by simp [valueAt,find?_cons,e']
   rw[iI e,b]; exact ih
theorem KV.any {kvs:List (κ × V)} {vs:List (κ × Value)} (r:KV kvs vs) (k:κ):(kvs.any fun kv=>decide (kv.1=k))=vs.any fun kv=>decide (kv.1=k):=by
 unfold KV at r
 induction r with
 | nil=>rfl
 | cons h t ih=>rw[any_cons,any_cons,ih,h.1]
theorem KV.repl {kvs:List (κ × V)} {vs:List (κ × Value)} (r:KV kvs vs) (k:κ) {y:V} {u:Value} (ry:bW y u) :
  KV (kvs.map fun kv=>if kv.1=k then (kv.1,y) else kv) (vs.map fun kv=>if kv.1=k then (kv.1,u) else kv):=by
 unfold KV at r ⊢
 induction r with
 | nil=>exact .nil
 | @cons p q ps qs h t ih=>
  rw[map_cons,map_cons]
  refine .cons ?_ ih
  obtain⟨h1,h2⟩:=h
  by_cases e:p.1=k
  ·rw[if_pos e,if_pos (h1.symm.trans e)]; exact⟨h1,ry⟩
  ·rw[if_neg e,if_neg (fun z=>e (h1.trans z))]; exact⟨h1,h2⟩
theorem KV.put {kvs:List (κ × V)} {vs:List (κ × Value)} (r:KV kvs vs) (k:κ) {y:V} {u:Value} (ry:bW y u):KV (iB kvs k y) (stored vs k u):=by
 unfold iB stored
 rw[r.any k]
 by_cases e:(vs.any fun kv=>decide (kv.1=k))=true
 ·rw[if_pos e,if_pos e]; exact r.repl k ry
 ·rw[if_neg e,if_neg e]; exact Paired.snoc r ⟨rfl,ry⟩
theorem KV.drop {kvs:List (κ × V)} {vs:List (κ × Value)} (r:KV kvs vs) (k:κ):KV (hJ kvs k) (without vs k):=by
 unfold KV at r ⊢
 unfold hJ without
 induction r with
 | nil=>exact .nil
 | @cons p q ps qs h t ih=>
  obtain⟨h1,h2⟩:=h
  rw[filter_cons,filter_cons]
  by_cases e:p.1=k
  ·have a:¬ decide (p.1≠k)=true:=by simp [e]
   have b:¬ decide (q.1≠k)=true:=by simp [h1.symm.trans e]
   rw[if_neg a,if_neg b]; exact ih
  ·have e':¬ q.1=k:=fun z=>e (h1.trans z)
   have a:decide (p.1≠k)=true:=by simp [e]
   have b:decide (q.1≠k)=true:=by simp [e']
   rw[if_pos a,if_pos b]; exact .cons ⟨h1,h2⟩ ih
theorem KV.length {kvs:List (κ × V)} {vs:List (κ × Value)} (r:KV kvs vs):kvs.length=vs.length:=Paired.length r
theorem FO (kvs:List (κ × V)) (k:κ):(hJ kvs k).length<=kvs.length:=length_filter_le _ _
end
theorem wO {P:Program} {w:World} {k:Key} {u:Value} (r:bW (kV k) u):(cE P w).is k u=true:=by
 cases k with
 | inl i=>obtain⟨t,e⟩:=(show ∃ t,u=Value.int i t from r); subst e; exact AJ P w i t
 | inr x=>obtain⟨t,e⟩:=(show ∃ t,u=Value.str x t from r); subst e; exact AI P w x t
theorem wP {P:Program} {w:World}:∀ {ks:List Key} {us:List Value},bQ (ks.map kV) us->ItemsAre (cE P w) ks us
 | [],_,r=>by rw[map_nil]at r; cases r; exact .nil
 | k::ks,_,r=>by
  rw[map_cons]at r
  cases r with
  | cons h t=>exact .cons (wO h) (wP t)
noncomputable abbrev KT (H:Hp):List (List Key × V)->List (List Key × Addr × Value)->Prop:=Paired fun p q=>p.1=q.1/\H q.2.1=some (.tup (p.1.map kV))/\bW p.2 q.2.2
theorem KT.val {H:Hp} {kvs:List (List Key × V)} {xs:List (List Key × Addr × Value)} (r:KT H kvs xs) (k:List Key):mI (dS kvs k) ((atKey xs k).map (·.2)):=by
 induction r with
 | nil=>exact True.intro
 | @cons p q ps qs h t ih=>
  obtain⟨h1,_,h2⟩:=h
  by_cases e:p.1=k
  ·have e':q.1=k:=h1.symm.trans e
   have b:atKey (q::qs) k=some q.2:=by simp [atKey,find?_cons,e']
   rw[iH e,b]; exact h2
  ·have e':¬ q.1=k:=fun z=>e (h1.trans z)
   have b:atKey (q::qs) k=atKey qs k:=by simp [atKey,find?_cons,e']
   rw[iI e,b]; exact ih
theorem KT.repl {H:Hp} {kvs:List (List Key × V)} {xs:List (List Key × Addr × Value)} (r:KT H kvs xs) (k:List Key) {y:V} {u:Value} (ry:bW y u) :
  KT H (kvs.map fun kv=>if kv.1=k then (kv.1,y) else kv) (xs.map (putAt k u)):=by
 induction r with
 | nil=>exact .nil
 | @cons p q ps qs h t ih=>
  rw[map_cons,map_cons]
  refine .cons ?_ ih
  obtain⟨h1,h2,h3⟩:=h
  unfold putAt
  by_cases e:p.1=k
  ·rw[if_pos e,if_pos (h1.symm.trans e)]; exact⟨h1,h2,ry⟩
  ·rw[if_neg e,if_neg (fun z=>e (h1.trans z))]; exact⟨h1,h2,h3⟩
theorem KT.put {H:Hp} {kvs:List (List Key × V)} {xs:List (List Key × Addr × Value)} (r:KT H kvs xs) (k:List Key) {b:Addr} {y:V} {u:Value} (hb:H b=some (.tup (k.map kV))) (ry:bW y u) :
  KT H (iB kvs k y) (storedH xs k b u):=by
 have e:(kvs.any fun kv=>decide (kv.1=k))=(atKey xs k).isSome:=by
  rw[nY,(r.val k).isSome_eq,Option.isSome_map]
 unfold iB storedH
 rw[e]
 by_cases q:(atKey xs k).isSome=true
 ·rw[if_pos q,if_pos q]; exact r.repl k ry
 ·rw[if_neg q,if_neg q]; exact Paired.snoc r ⟨rfl,hb,ry⟩
theorem KT.keeps {H H':Hp} {kvs:List (List Key × V)} {xs:List (List Key × Addr × Value)} (r:KT H kvs xs) (ht:∀ b ys,H b=some (.tup ys)->H' b=some (.tup ys)):KT H' kvs xs:=
 Paired.mapP r fun _ _ z=>⟨z.1,ht _ _ z.2.1,z.2.2⟩
section
variable {P:Program} {w:World} {H:Hp} {h:Heap} {a:Addr}
theorem Gr {u:HO} (ok:HOk P w H h) (e:Rd H a u):dC P w H h a u:=e.ok ok
theorem Ac {kvs:List (Key × V)} (ok:HOk P w H h) (e:Rd H a (.dK kvs)):kvs.length<=sizeLine/\(a == sysModules)=false/\∃ vs,KV kvs vs/\h.DictOf (cE P w) a vs:=
 show dC P w H h a (.dK kvs) from Gr ok e
theorem wZ {kvs:List (Key × V)} (ok:HOk P w H h) (e:H a=some (.dK kvs)):kvs.length<=sizeLine/\(a == sysModules)=false/\∃ vs,KV kvs vs/\h.DictOf (cE P w) a vs:=Ac ok (.inl e)
theorem uK {ks:List Key} (ok:HOk P w H h) (e:H a=some (.tup (ks.map kV))):(tupleKind (cE P w)).is h ks a:=by
 obtain⟨_,its,r,o,h1,h2,n,h3⟩:=(show dC P w H h a (.tup (ks.map kV)) from ok a _ e)
 exact⟨o,its.toArray,n,h1,h2,h3,by simpa using wP r⟩
theorem Aa {kvs:List (List Key × V)} (ok:HOk P w H h) (e:Rd H a (.dT kvs)):kvs.length<=sizeLine/\(a == sysModules)=false/\
  ∃ xs,KT H kvs xs/\h.DictOfH (tupleKind (cE P w)) a xs:=by
 obtain⟨z,y,xs,r,o,es,ep,h1,h2,h3,h4,h5⟩:=(show dC P w H h a (.dT kvs) from Gr ok e)
 refine⟨z,y,xs,r,o,es,ep,h1,h2,h3,h4,fun x hx=>?_,h5⟩
 have all:∀ {l:List (List Key × V)} {m:List (List Key × Addr × Value)},KT H l m->∀ x∈m,(tupleKind (cE P w)).is h x.1 x.2.1:=by
  intro l m q
  induction q with
  | nil=>intro x hx; exact nomatch hx
  | @cons p q ps qs hq t ih=>
   intro x hx
   rcases mem_cons.mp hx with e | hx
   ·subst e
    exact uK ok (by rw[<- hq.1]; exact hq.2.1)
   ·exact ih x hx
 exact all r x hx
theorem dt_of {kvs:List (List Key × V)} (ok:HOk P w H h) (e:H a=some (.dT kvs)):kvs.length<=sizeLine/\(a == sysModules)=false/\
  ∃ xs,KT H kvs xs/\h.DictOfH (tupleKind (cE P w)) a xs:=Aa ok (.inl e)
end
def fN (H:Hp) (a:Addr) (y:V) (r:Option V):Prop:=
 (∃ kvs k,Rd H a (.dK kvs)/\y=kV k/\r=dS kvs k)\/∃ kvs k b,Rd H a (.dT kvs)/\y = .ref b/\H b=some (.tup (k.map kV))/\r=dS kvs k
def rP (H:Hp) (a:Addr) (y v:V) (H':Hp):Prop:=
 (∃ kvs k,H a=some (.dK kvs)/\y=kV k/\kvs.length<sizeLine/\H'=upd H a (.dK (iB kvs k v)))\/
 ∃ kvs k b,H a=some (.dT kvs)/\y = .ref b/\H b=some (.tup (k.map kV))/\kvs.length<sizeLine/\H'=upd H a (.dT (iB kvs k v))
theorem fN.k {H:Hp} {a:Addr} {kvs:List (Key × V)} {k:Key} (e:H a=some (.dK kvs)):fN H a (kV k) (dS kvs k):=.inl ⟨kvs,k,.inl e,rfl,rfl⟩
theorem rP.k {H:Hp} {a:Addr} {kvs:List (Key × V)} {k:Key} {v:V} (e:H a=some (.dK kvs)) (hl:kvs.length<sizeLine):rP H a (kV k) v (upd H a (.dK (iB kvs k v))):=.inl ⟨kvs,k,e,rfl,hl,rfl⟩
section
variable {X:Cx} {pins:List (Addr × Obj)} {σ : St} {H:Hp} {s:Shared} {a:Addr} {y v:V} {u r:Value} {o:Option V} {A:Around} {E:Value->Shared->Prop}
theorem Inv.big (I:Inv X pins σ H s):sysModules<s.heap.objs.size:=by
 have h:mainGlobals<s.heap.objs.size:=(I.mod.glob.keeps I.bk).lt
 exact lt_trans (by decide) h
theorem De {Q:Value->Shared->Prop} (hu:A.units+1<cLine) (I:Inv X pins σ H s) (g:fN H a y (some v)) (ry:bW y u) (h:∀ w' s',Inv X pins σ H s'->bW v w'->Q w' s') :
  wpAny (model X.prog X.w) A (getItem (.ref a) u) Q E s:=by
 rcases g with ⟨kvs,k,e,ey,l⟩ | ⟨kvs,k,b,e,ey,eb,l⟩
 ·subst ey
  obtain⟨z,hd,vs,rel,dd⟩:=Ac I.hok e
  obtain⟨w',hw,rw'⟩:=mI.some_of (v:=v) (o:=valueAt vs k) (by rw[l]; exact rel.val k)
  exact wpAny_getItem_of (wO ry) dd.mapOf hw (h w' _ (I.tok _) rw')
 ·subst ey
  cases (show u=Value.ref b from ry)
  obtain⟨z,hd,xs,rel,dd⟩:=Aa I.hok e
  obtain⟨w',hw,rw'⟩:=mI.some_of (v:=v) (o:=(atKey xs k).map (·.2)) (by rw[l]; exact rel.val k)
  obtain⟨p,hp,hp2⟩:=Option.map_eq_some_iff.mp hw
  refine wpAny_getItem_heap (tupleKind_room_in1 hu) (uK I.hok eb) dd hp ?_
  rw[hp2]
  exact h w' _ (I.tok _) rw'
theorem d_in {Q:Value->Shared->Prop} (hu:A.units+1<cLine) (I:Inv X pins σ H s) (g:fN H a y o) (ry:bW y u) (h:∀ s',Inv X pins σ H s'->Q (.bool o.isSome) s') :
  wpAny (model X.prog X.w) A (compareOp .In u (.ref a)) Q E s:=by
 rcases g with ⟨kvs,k,e,ey,l⟩ | ⟨kvs,k,b,e,ey,eb,l⟩
 ·subst ey
  obtain⟨z,hd,vs,rel,dd⟩:=Ac I.hok e
  refine wpAny_in_of (wO ry) hd dd.mapOf ?_
  rw[<- (rel.val k).isSome_eq,<- l]
  exact h _ (I.tok _)
 ·subst ey
  cases (show u=Value.ref b from ry)
  obtain⟨z,hd,xs,rel,dd⟩:=Aa I.hok e
  refine wpAny_in_heap (tupleKind_room_in1 hu) (uK I.hok eb) hd dd ?_
  have q:=(rel.val k).isSome_eq
  rw[Option.isSome_map]at q
  rw[<- q,<- l]
  exact h _ (I.tok _)
theorem Ga {Q:Value->Shared->Prop} (hu:A.units+1<cLine) (I:Inv X pins σ H s) (g:fN H a y o) (ry:bW y u) (h:∀ s',Inv X pins σ H s'->Q (.bool (!o.isSome)) s') :
  wpAny (model X.prog X.w) A (compareOp .NotIn u (.ref a)) Q E s:=by
 rcases g with ⟨kvs,k,e,ey,l⟩ | ⟨kvs,k,b,e,ey,eb,l⟩
 ·subst ey
  obtain⟨z,hd,vs,rel,dd⟩:=Ac I.hok e
  refine wpAny_notIn_of (wO ry) hd dd.mapOf ?_
  rw[<- (rel.val k).isSome_eq,<- l]
  exact h _ (I.tok _)
 ·subst ey
  cases (show u=Value.ref b from ry)
  obtain⟨z,hd,xs,rel,dd⟩:=Aa I.hok e
  refine wpAny_notIn_heap (tupleKind_room_in1 hu) (uK I.hok eb) hd dd ?_
  have q:=(rel.val k).isSome_eq
  rw[Option.isSome_map]at q
  rw[<- q,<- l]
  exact h _ (I.tok _)
theorem zA {h':Heap} {t':Nat} {ob:HO} (I:Inv X pins σ H s) (mu:Mut (H a)) (hs:Heap.SameBut a s.heap h') (he:∃ q,h'.get? a=some q) (new:dC X.prog X.w (upd H a ob) h' a ob) :
  Inv X pins σ (upd H a ob) { s with heap:=h',toks:=t' }:=
 I.write (x:=a) (e:=a) mu (.inl rfl) (fun b q hb z=>(hs.2 b hb).trans z) he new
theorem FP {P:Program} {w:World} {H':Hp} {h':Heap} {kvs:List (Key × V)} {vs:List (Key × Value)} (z:kvs.length<=sizeLine) (hd:(a == sysModules)=false) (rel:KV kvs vs) (dd:h'.DictOf (cE P w) a vs) :
  dC P w H' h' a (.dK kvs):=⟨z,hd,vs,rel,dd⟩
theorem Dc {H':Hp} {Q:Unit->Shared->Prop} (hu:A.units+1<cLine) (I:Inv X pins σ H s) (g:rP H a y v H') (ry:bW y u) (rv:bW v r) (h:∀ s',Inv X pins σ H' s'->Q () s') :
  wpAny (model X.prog X.w) A (setItem (.ref a) u r) Q E s:=by
 rcases g with ⟨kvs,k,e,ey,l,eH⟩ | ⟨kvs,k,b,e,ey,eb,l,eH⟩
 ·subst ey eH
  obtain⟨z,hd,vs,rel,dd⟩:=wZ I.hok e
  have hz:vs.length<=sizeLine:=by rw[<- rel.length]; exact z
  have hl:(iB kvs k v).length<=sizeLine:=by have:=rB kvs k v; omega
  refine wpAny_setItem_pairs (hsz:=hz) (wO ry) dd fun h' dd' hs=>h _ ?_
  have he:∃ q,h'.get? a=some q:=let ⟨q,_,_,hq,_⟩:=dd'; ⟨q,hq⟩
  exact zA I (by rw[e]; exact True.intro) hs he (FP hl hd (rel.put k rv) dd')
 ·subst ey eH
  cases (show u=Value.ref b from ry)
  obtain⟨z,hd,xs,rel,dd⟩:=dt_of I.hok e
  have hz:xs.length<=sizeLine:=by rw[<- Paired.length rel]; exact z
  have hl:(iB kvs k v).length<=sizeLine:=by have:=rB kvs k v; omega
  refine wpAny_setItem_heap (hsz:=hz) (tupleKind_room_in1 hu) (uK I.hok eb) dd fun h' dd' hs=>h _ ?_
  obtain⟨q,es,ep,hq,h2,h3,h4,_,h5⟩:=dd'
  refine zA I (by rw[e]; exact True.intro) hs ⟨q,hq⟩ ⟨hl,hd,_,(rel.put k eb rv).keeps fun c ys ec=>?_,q,es,ep,hq,h2,h3,h4,h5⟩
  rw[aF (ne_of ec e (fun z=>nomatch z))]
  exact ec
end
section
variable {X:Cx} {pins:List (Addr × Obj)} {σ : St} {H:Hp} {s:Shared} {a:Addr} {kvs:List (Key × V)} {k:Key} {u:Value} {A:Around} {E:Value->Shared->Prop}
theorem d_pop {v:V} {more:List Value} {Q:Value->Shared->Prop} (I:Inv X pins σ H s) (e:H a=some (.dK kvs)) (ry:bW (kV k) u) (l:dS kvs k=some v) (hm:more=[]\/∃ x,more=[x])
  (h:∀ w' s',Inv X pins σ (upd H a (.dK (hJ kvs k))) s'->bW v w'->Q w' s'):wpAny (model X.prog X.w) A (call (.builtin "dict.pop") (.ref a::u::more)) Q E s:=by
 obtain⟨z,hd,vs,rel,dd⟩:=wZ I.hok e
 obtain⟨w',hw,rw'⟩:=mI.some_of (v:=v) (o:=valueAt vs k) (by rw[<- l]; exact rel.val k)
 have hp:(keyPart u).isSome=true:=by
  cases k with
  | inl i=>obtain⟨t,q⟩:=(show ∃ t,u=Value.int i t from ry); subst q; rfl
  | inr x=>obtain⟨t,q⟩:=(show ∃ t,u=Value.str x t from ry); subst q; rfl
 have ha:argsOk "dict.pop" ⟨.ref a::u::more,[]⟩:=by
  rcases hm with q | ⟨x,q⟩
  ·subst q; exact PySem.F.args_dict_pop_2 _ _
  ·subst q; exact PySem.F.args_dict_pop_3 _ _ _
 refine call_meetsIn PySem.F.slot_dict_pop dd.typeIs PySem.F.entry_dict_pop ha (meets_dict_pop_there (cE X.prog X.w) a (wO ry) more hm hp)
  ⟨vs,w',dd,by rw[<- rel.length]; exact z,hw,fun h' dd' hs=>h w' _ ?_ rw'⟩
 have he:∃ q,h'.get? a=some q:=let ⟨q,_,_,hq,_⟩:=dd'; ⟨q,hq⟩
 exact zA I (by rw[e]; exact True.intro) hs he (FP (le_trans (FO kvs k) z) hd (rel.drop k) dd')
end
def NoSl (i:Expr):Prop:=∀ ov iv,subscripted i false ov iv=operate [ov,iv] (getItem ov iv)
theorem Fn {prog:Program} {w:World} {A:Around} {E:Value->Shared->Prop} {s:Shared} {env:Env} {value slice:Expr} {pos:Pos} {T id:String} {Q:Value->Shared->Prop}
  (hl:typeLookup (.type T) "__getitem__" = pure (some (.builtin id))) (hs:NoSl slice)
  (h:wpAny (model prog w) A (eval value env) (fun o s₁=>wpAny (model prog w) A (eval slice env) (fun i s₂=>s₂.TypeIs o T/\wpAny (model prog w) A (getItem o i) Q E s₂) E s₁) E s) :
  wpAny (model prog w) A (eval (.Subscript value slice pos) env) Q E s:=by
 refine Subscript_ (wpAny_mono h (fun o s₁ h₁=>wpAny_mono h₁ (fun i s₂ h₂=>?_) fun _ _ x=>x) fun _ _ x=>x)
 obtain⟨hT,h₂⟩:=h₂
 unfold subscriptTail
 refine wpAny_bind ?_
 rw[getitemInPython_of_ne hT.not_modules]
 refine wpAny_bind (wpAny_specialOf hT hl ?_)
 have fin:wpAny (model prog w) A (subscripted slice false o i) (fun r s₃=>wpAny (model prog w) A (letTemporaryGo value o r >>= fun _=>pure r) Q E s₃) E s₂:=by
  rw[hs o i]
  exact wpAny_operating (wpAny_mono h₂ (fun r s₃ h₃=>wpAny_bind (wpAny_letTemporaryGo (wpAny_pure h₃))) fun _ _ x=>x)
 first
  | exact wpAny_pure (wpAny_bind fin)
  | exact wpAny_bind (wpAny_pure (wpAny_bind fin))
  | exact wpAny_bind fin
theorem Ae {X:Cx} {pins:List (Addr × Obj)} {σ : St} {H:Hp} {s:Shared} {a:Addr} {y:V} {o:Option V} (I:Inv X pins σ H s) (g:fN H a y o):s.TypeIs (.ref a) "dict":=by
 rcases g with ⟨kvs,k,e,_,_⟩ | ⟨kvs,k,b,e,_,_,_⟩
 ·obtain⟨_,_,vs,_,dd⟩:=Ac I.hok e
  exact dd.typeIs
 ·obtain⟨_,_,xs,_,dd⟩:=Aa I.hok e
  exact dd.typeIs
def Gp (td ty:TE):TE:=fun σ H Q=>td σ H fun x H1=>ty σ H1 fun y H2=>∃ a v,x = .ref a/\fN H2 a y (some v)/\Q v H2
def tDIn (ty td:TE):TE:=fun σ H Q=>ty σ H fun y H1=>td σ H1 fun x H2=>∃ a o,x = .ref a/\fN H2 a y o/\Q (.bl o.isSome) H2
def Fl (ty td:TE):TE:=fun σ H Q=>ty σ H fun y H1=>td σ H1 fun x H2=>∃ a o,x = .ref a/\fN H2 a y o/\Q (.bl (!o.isSome)) H2
def EG (td ty tv:TE):TS:=fun D σ H=>tv σ H fun v H1=>td σ H1 fun x H2=>ty σ H2 fun y H3=>∃ a H4,x = .ref a/\rP H3 a y v H4/\D.nx σ H4
section
variable {X:Cx} {o i e value:Expr} {pos pos' tpos:Pos} {td ty tv:TE}
theorem i6 (hu:X.A.units+1<cLine) (ho:PE X o td) (hi:PE X i ty) (hs:NoSl i):PE X (.Subscript o i pos) (Gp td ty):=by
 intro pins s σ H Q I h
 refine Fn PySem.F.slot_dict_getitem.lookup hs (thn (ho pins s σ H _ I h) fun u s1 ⟨x,H1,I1,rx,q1⟩=>thn (hi pins s1 σ H1 _ I1 q1) fun iv s2 zQq=>?_)
 obtain⟨y,H2,I2,ry,a,v,ex,g,q2⟩:=zQq
 subst ex
 obtain rfl:u=Value.ref a:=rx
 exact⟨Ae I2 g,De hu I2 g ry fun w' s3 I3 rw'=>⟨v,H2,I3,rw',q2⟩⟩
theorem Eh (hu:X.A.units+1<cLine) (hi:PE X i ty) (ho:PE X o td):PC X .In i o (tDIn ty td):=by
 intro pins s σ H Q I h
 refine thn (hi pins s σ H _ I h) fun iv s1 ⟨y,H1,I1,ry,q1⟩=>thn (ho pins s1 σ H1 _ I1 q1) fun u s2 zQq=>?_
 obtain⟨x,H2,I2,rx,a,ov,ex,g,q2⟩:=zQq
 subst ex
 obtain rfl:u=Value.ref a:=rx
 exact d_in hu I2 g ry fun s3 I3=>⟨.bl ov.isSome,H2,I3,rfl,q2⟩
theorem qJ (hu:X.A.units+1<cLine) (hi:PE X i ty) (ho:PE X o td):PC X .NotIn i o (Fl ty td):=by
 intro pins s σ H Q I h
 refine thn (hi pins s σ H _ I h) fun iv s1 ⟨y,H1,I1,ry,q1⟩=>thn (ho pins s1 σ H1 _ I1 q1) fun u s2 zQq=>?_
 obtain⟨x,H2,I2,rx,a,ov,ex,g,q2⟩:=zQq
 subst ex
 obtain rfl:u=Value.ref a:=rx
 exact Ga hu I2 g ry fun s3 I3=>⟨.bl (!ov.isSome),H2,I3,rfl,q2⟩
theorem i5 (hu:X.A.units+1<cLine) (ho:PE X o td) (hi:PE X i ty) (hv:PE X value tv) (hs:swapsWith value (some (.Subscript o i pos')) pos.line X.env=pure false) :
  PS X (.Assign [.Subscript o i pos'] value pos) (EG td ty tv):=by
 intro pins s σ H D I h
 refine wpAny_Assign_Subscript (thn (hv pins s σ H _ I h) fun r s1 ⟨v,H1,I1,rv,q1⟩=>thn (ho pins s1 σ H1 _ I1 q1) fun u s2 ⟨x,H2,I2,rx,q2⟩=>thn (hi pins s2 σ H2 _ I2 q2) fun iv s3 zQq=>?_) hs
 obtain⟨y,H3,I3,ry,a,H4,ex,g,q3⟩:=zQq
 subst ex
 obtain rfl:u=Value.ref a:=rx
 exact Dc hu I3 g ry rv fun s4 I4=>⟨σ,H4,I4,q3⟩
end
theorem FQ {P:Program} {w:World} {H:Hp} (h:Heap) (hb:sysModules<h.objs.size):dC P w H (h.push { cls:=.type "dict",data:=.dict #[] }) h.objs.size (.dK []):=
 ⟨zero_le _,beq_eq_false_iff_ne.mpr (Ne.symm (ne_of_lt hb)),[],.nil,Heap.DictOf.new h⟩
def G8:TE:=fun _ H Q=>∀ p,H p=none->Q (.ref p) (upd H p (.dK []))
section
variable {X:Cx} {pos:Pos}
theorem oW:PE X (.Dict [] [] pos) G8:=fun pins s σ H Q I h=>
 wpAny_Dict_empty ⟨.ref s.heap.objs.size,_,I.laid (a:=s.heap.objs.size) (o:=.dK []) (t':=s.toks) (fun _ _ q=>get?_push_of_some _ q) (le_refl _) (FQ s.heap I.big),rfl,h _ (I.hok.fresh (le_refl _))⟩
end
section
variable {X:Cx} {pins:List (Addr × Obj)} {σ : St} {H:Hp} {s:Shared} {a:Addr} {y d:V} {u r:Value} {o:Option V} {A:Around} {E:Value->Shared->Prop}
end
section
variable {X:Cx} {o e f:Expr} {apos cpos:Pos} {td ty tx:TE}
end
section
variable {X:Cx} {pins:List (Addr × Obj)} {σ : St} {H:Hp} {s:Shared} {a:Addr} {kvs:List (Key × V)} {A:Around} {E:Value->Shared->Prop}
end
section
variable {X:Cx} {pins:List (Addr × Obj)} {σ : St} {H:Hp} {s:Shared} {a:Addr} {y:V} {u:Value} {A:Around} {E:Value->Shared->Prop}
end
end L2
namespace Att
open PySem PySem.W PySem.Calls PyProof.Rows
theorem rL {P:Params} {h:Heap}:∀ (ns:List Int) (vs:List Value),WellAll P h vs (ns.map WData.int)->IntsAre vs ns:=by
 intro ns
 induction ns with
 | nil=>
  intro vs w
  rw[map_nil]at w
  cases w
  exact .nil
 | cons n ns ih=>
  intro vs w
  rw[map_cons]at w
  cases w with
  | cons a b=>
   cases a
   exact .cons _ _ (ih _ b)
theorem Cz {l:OpenLaw} {n:Nat} (hn:l.most=some n) {P:Params} {h:Heap} {args:List WData} {vals:List Value}
  (hpre:l.row.toRowW.claim.pre args=true) (hwl:WellAll P h vals args) :
  ∃ a vs ns,vals=[Value.ref a]/\args=[WData.list (ns.map WData.int)]/\h.get? a=some { cls:=.type "list",data:=.seq vs.toArray }/\IntsAre vs ns/\ns.length<=n:=by
 have hsh:WShape.hasAll [] args [.list .int]=true:=(pre_splitW hpre).1
 have hc:l.pre.holds [] { args:=args }=true:=(pre_splitW hpre).2
 obtain⟨d,r,rfl,h1,h2⟩:=hasAllW_cons hsh
 obtain rfl:=hasAllW_nil h2
 obtain⟨xs,rfl,h3⟩:=hasW_list h1
 obtain⟨ns,rfl⟩:=items_int h3
 have hlen:ns.length<=n:=by
  unfold OpenLaw.pre at hc
  have h4:(WTm.not (.lt (.lit (.int (n:Int))) (.len (.arg 0)))).holds [] { args:=[.list (ns.map .int)] }=true:=by
   have h4:=(holds_andW hc).1
   rw[hn]at h4
   exact h4
  have h5:=condW_of h4 (w_not (w_lt w_lit (w_len_list (w_arg rfl))))
  rw[length_map]at h5
  refine Nat.le_of_not_lt fun q=>?_
  have q':(n:Int)<((ns.length:Nat):Int):=by omega
  first
   | (rw[decide_eq_true q']at h5; exact absurd h5 (by decide))
   | (simp at h5; omega)
 cases hwl with
 | cons w1 w2=>
  cases w2
  cases w1 with
  | list ho hall=>exact⟨_,_,ns,rfl,rfl,ho,rL ns _ hall,hlen⟩
theorem C4 (l:OpenLaw) (args:List WData):l.row.toRowW.claim.post args (.bool true) args=true:=
 postW_of (r:=l.row.toRowW) (X:=(true == true))
  (show WShape.has [] (.bool true) .bool=true by first | rfl | decide | simp [WShape.has,WShape.arms,WShape.armsAll])
  (show (WTm.eq .res (.lit (.bool true))).value [] { args:=args,res:=some (.bool true),after:=args }=some (.bool (true == true)) from w_eq_bool (w_res rfl) w_lit) rfl
theorem An {l:OpenLaw} {n:Nat} {q:Program} {loose:List Str} {XP:(Str->Option Value)->Heap->Prop} {YP:World->Heap->Prop} {d:DefRec}
  (hn:l.most=some n) (hdf:d.params.defaults=[])
  (call:∀ (w:World) (s₀ s₁ : Shared) (mg mb:Str->Option Value) (fa:Addr) (o:Obj) (pm cd doc:Value) (a:Addr) (vs:List Value) (ns:List Int),
   Ground q loose [] XP w s₀ mg mb s₁.heap->YP w s₁.heap->
   s₁.heap.get? fa=some o->o.data = .func (docDef d.name d.params d.body d.scope pm cd doc)->s₁.heap.CodeRec cd d.name->mg d.name=some (.ref fa)->
   s₁.heap.get? a=some { cls:=.type "list",data:=.seq vs.toArray }->IntsAre vs ns->ns.length<=n->s₁.gens = #[]->
   codeAny (model l.prog w) callerA (.call (.ref fa) ⟨[.ref a],[]⟩) (fun r s'=>r = .ok (.ret (.bool true))/\OldK s₁.heap s'.heap/\s'.os=s₁.os/\AllBare s'.gens) s₁) :
  WalkO q loose XP YP l.row.toRowW d [] (fun f vs=>PySem.call f vs):=by
 intro w s₀ s₁ mg mb G Y fa o pm cd doc dV kV ho hd hcd hD hmg hg args vals as hpre hlay hrd hwl hlo
 obtain rfl:dV = .none:=Dflts.none hD hdf
 obtain rfl:kV = .none:=Dflts.noKw hD
 obtain⟨a,vs,ns,rfl,rfl,hobj,hints,hlen⟩:=Cz hn hpre hwl
 refine enter_call (codeAny_mono (call w s₀ s₁ mg mb fa o pm cd doc a vs ns G Y ho (fd_plain hd) hcd hmg hobj hints hlen hg) fun r s' hq=>?_)
 obtain⟨rfl,h2,h3,h4⟩:=hq
 exact⟨.inl ⟨.bool true,.bool true,[],rfl,fun _=>rfl,.bool true,C4 l _,fun _=>⟨List.Pairwise.nil,fun _ hm=>(nomatch hm)⟩⟩,h2,h3,h4⟩
section
variable {prog:Program} {w:World} {A:Around} {E:Value->Shared->Prop} {s:Shared} {K:Frag}
end
end Att
namespace L2
open PySem PySem.Spec PyProof.Rows
theorem jH:∀ {vs:List Value} {ns:List Int},IntsAre vs ns->bQ (ns.map V.int) vs
 | _,_,.nil=>.nil
 | _,_,.cons n t h=>.cons ⟨t,rfl⟩ (jH h)
def Hw (H:Hp):Prop:=∀ b,H b=none\/∃ o xs,H b=some (.frz o (.lst xs))
theorem E1 {P:Program} {w:World} {K:PySem.W.Frag} {mg mb:Str->Option Value} {CX:CXT} {k:Nat} {fa a:Addr} {fd:FuncData} {x:Str} {sp:Sp} {s₁ : Shared} {vs:List Value} {ns:List Int}
  (KX:K.In s₁.heap) (hns:s₁.heap.Ns mainGlobals mg) (hb:s₁.heap.Ns builtinsNs mb) (hbb:∀ x:Str,x ≠ "__name__"->mb x=bootBuiltins x) (hlim:s₁.heap.NoLimit) (hg:s₁.gens = #[])
  (ha:s₁.heap.get? a=some { cls:=.type "list",data:=.seq vs.toArray }) (hi:IntsAre vs ns) (hl:ns.length<=sizeLine) (hr:Room k callerA)
  (F:∀ base:Heap,K.In base->base.Ns mainGlobals mg->FnOk P w K mg base CX k fa fd [x] sp) (hbind:∀ (s:Shared) (u:Value),BindsTo s fd ⟨[u],[]⟩ [(x,u)])
  (hsp:∀ H:Hp,Hw H->SqL K H a (ns.map V.int)->sp [.ref a] H (fun v _=>v = .bl true) fun _ _ _=>False)
  (hCX:∀ H e s',CX [] H s₁ (fun _ _ _=>False) e s'->False) :
  codeAny (model P w) callerA (.call (.ref fa) ⟨[.ref a],[]⟩) (fun r s'=>r = .ok (.ret (.bool true))/\OldK s₁.heap s'.heap/\s'.os=s₁.os/\AllBare s'.gens) s₁:=by
 have rv:=jH hi
 have lenV:=hi.length
 -- from an abstract heap in which nothing but the script may be tracked
 have core:∀ H:Hp,Hw H->SqL K H a (ns.map V.int)->HOk P w H s₁.heap->(∀ b,H b≠none->b=a)->(H a≠none->K.lookup a=none)->
   codeAny (model P w) callerA (.call (.ref fa) ⟨[.ref a],[]⟩) (fun r s'=>r = .ok (.ret (.bool true))/\OldK s₁.heap s'.heap/\s'.os=s₁.os/\AllBare s'.gens) s₁:=by
  intro H hO hS hok hA hK
  have base_of:∀ {b:Addr} {o:Obj},s₁.heap.get? b=some o->H b=none->(yW s₁.heap H).get? b=some o:=fun e n=>FA e n
  have noA:∀ {b:Addr} {o:Obj} {es:Array DictEntry} {ep:Nat},s₁.heap.get? b=some o->o.data = .dict es ep->H b=none:=fun {b o es ep} e d=>by
   cases q:H b with
   | none=>rfl
   | some u=>
    have e':b=a:=hA b (by rw[q]; simp)
    subst e'
    rw[ha]at e; cases e
    have d':Data.seq vs.toArray _=Data.dict es ep:=d
    cases d'
  have nsK:∀ {b:Addr} {m:Str->Option Value},s₁.heap.Ns b m->(yW s₁.heap H).Ns b m:=fun {b m} ⟨o,es,ep,e,d,r⟩=>⟨o,es,ep,base_of e (noA e d),d,r⟩
  have hKb:K.In (yW s₁.heap H):=fun b o e=>base_of (KX b o e) (by
   cases q:H b with
   | none=>rfl
   | some u=>
    have e':b=a:=hA b (by rw[q]; simp)
    subst e'
    rw[hK (by rw[q]; simp)]at e; cases e)
  have hM:Mod K mg (yW s₁.heap H):=⟨hKb,nsK hns,⟨mb,nsK hb,hbb⟩,let ⟨mc,h1,h2⟩:=hlim; ⟨mc,nsK h1,h2⟩⟩
  have e0:Env0 P w K mg (yW s₁.heap H) callerA [] s₁ H:=⟨rfl,hM,fun b o e=>GK e,Nat.le_of_eq (DW _ _),trivial,fun b hb=>absurd (show b∈([]:List Addr) from hb) (by simp),hok,.of_eq hg⟩
  refine codeAny_mono ((F _ hKb (nsK hns)).run callerA [] s₁ H ⟨[.ref a],[]⟩ [.ref a] [.ref a] _ _ hr e0 (hbind s₁ (.ref a)) (.cons rfl .nil) (hsp H hO hS)) fun r s' h=>?_
  cases r with
  | error e=>exact(hCX H e s' h).elim
  | ok fl=>
   cases fl with
   | next=>exact False.elim h
   | brk=>exact False.elim h
   | cont=>exact False.elim h
   | ret u=>
    obtain⟨v,H',os,bare,un,hok',r',q⟩:=h
    have q':v = .bl true:=q
    subst q'
    obtain rfl:u=Value.bool true:=r'
    refine⟨rfl,OldK.of_keep fun b o e=>?_,os,bare⟩
    cases q:H b with
    | none=>exact un.keep b o e q (by intro z; exact absurd (show b∈([]:List Addr) from z) (by simp)) (by simp)
    | some u=>
     rcases hO b with z | ⟨ob,xs,z⟩
     ·rw[q]at z; cases z
     ·have z2:=un.frzs b ob _ z
      obtain⟨e1,_⟩:=hok b _ z
      obtain⟨e2,_⟩:=hok' b _ z2
      rw[e]at e1; cases e1
      exact e2
 cases hk:K.lookup a with
 | some o=>
  -- the script is one of the module's own objects
  have e:=KX a o hk
  rw[ha]at e
  cases e
  refine core (fun _=>none) (fun _=>.inl rfl) (.inr ⟨_,vs.toArray,_,hk,rfl,rfl,rfl,by rw[size_toArray,lenV]; exact hl,by simpa using rv⟩) (fun b u z=>by have z':(none:Option HO)=some u:=z; cases z') (fun b z=>absurd rfl z) fun z=>absurd rfl z
 | none=>
  refine core (fun b=>if b=a then some (.frz { cls:=.type "list",data:=.seq vs.toArray } (.lst (ns.map V.int))) else none) (fun b=>?_) (.inl (.inr ⟨{ cls:=.type "list",data:=.seq vs.toArray },if_pos rfl⟩)) (fun b u z=>?_) (fun b z=>?_) fun _=>hk
  ·by_cases hb:b=a
   ·exact .inr ⟨_,_,if_pos hb⟩
   ·exact .inl (if_neg hb)
  ·by_cases hb:b=a
   ·have z':=(if_pos hb).symm.trans z
    cases z'
    subst hb
    exact⟨ha,by rw[length_map]; exact hl,vs,_,rv,ha⟩
   ·have z':=(if_neg hb).symm.trans z
    cases z'
  ·by_cases hb:b=a
   ·exact hb
   ·exact absurd (if_neg hb) z
theorem Fk {l:PySem.W.OpenLaw} {n k:Nat} {q:Program} {loose:List Str} {XP:(Str->Option Value)->Heap->Prop} {YP:World->Heap->Prop} {d:DefRec} {K:Params->PySem.W.Frag} {CX:World->CXT} {sp:World->Sp} {x:Str}
  (hn:l.most=some n) (hn2:n<=sizeLine) (hdf:d.params.defaults=[]) (hr:Room k callerA)
  (hY:∀ (w:World) (h:Heap),YP w h->(K w.params).In h)
  (F:∀ (w:World) (mg:Str->Option Value) (fa:Addr) (h:Heap),(K w.params).In h->h.Ns mainGlobals mg->mg d.name=some (.ref fa)->
   ∃ fd:FuncData,(∀ (s:Shared) (u:Value),BindsTo s fd ⟨[u],[]⟩ [(x,u)])/\
    ∀ base:Heap,(K w.params).In base->base.Ns mainGlobals mg->FnOk l.prog w (K w.params) mg base (CX w) k fa fd [x] (sp w))
  (hsp:∀ (w:World) (H:Hp) (a:Addr) (ns:List Int),ns.length<=n->Hw H->SqL (K w.params) H a (ns.map V.int)->sp w [.ref a] H (fun v _=>v = .bl true) fun _ _ _=>False)
  (hCX:∀ (w:World) (H:Hp) (s:Shared) (e:Value) (s':Shared),CX w [] H s (fun _ _ _=>False) e s'->False) :
  PySem.W.WalkO q loose XP YP l.row.toRowW d [] (fun f vs=>PySem.call f vs):=by
 refine Att.An hn hdf fun w s₀ s₁ mg mb fa o pm cd doc a vs ns G Y ho hd hcd hmg hobj hints hlen hg=>?_
 have KX:=hY w _ Y
 obtain⟨fd,hb,hF⟩:=F w mg fa _ KX G.T.g hmg
 exact E1 KX G.T.g G.T.b G.T.builtins G.T.nolimit hg hobj hints (le_trans hlen hn2) hr hF hb (fun H hO hS=>hsp w H a ns hlen hO hS) fun H e s'=>hCX w H s₁ e s'
noncomputable def bL (s:Stmt) (j:Nat):Stmt:=match s with
 | .ClassDef _ _ _ body _ _ _ _ _ _ _=>body.getD j (.Pass ⟨0,0,0,0⟩)
 | _=>.Pass ⟨0,0,0,0⟩
noncomputable def gR (s:Stmt):Arguments:=match s with
 | .FunctionDef _ a _ _ _ _ _ _ _ _=>a
 | _=>{ posonlyargs:=[],args:=[],vararg:=none,kwonlyargs:=[],kw_defaults:=[],kwarg:=none,defaults:=[] }
noncomputable def fZ (s:Stmt):List Stmt:=match s with
 | .FunctionDef _ _ b _ _ _ _ _ _ _=>b
 | _=>[]
noncomputable def aH (s:Stmt):Scope:=match s with
 | .FunctionDef _ _ _ _ _ _ sc _ _ _=>sc
 | _=>{ kind:=.function,names:=[],isGenerator:=false,isCoroutine:=false }
noncomputable abbrev E0:XK:=fun _ _ _=>False
structure Fun (K:PySem.W.Frag) (x qual:Str) (st:Stmt) (f:Addr) (fd:FuncData):Prop where
 ex:∃ (oc:Value) (od:Option Addr) (kV doc pm:Value) (an:Option Addr) (cdv ct:Value) (osl:Array (Option Value)),
  fd=fnOf x qual (gR st) (fZ st) (aH st) .none kV doc pm an cdv ct/\K.lookup f=some ⟨oc,od,.func fd,osl⟩/\codeIn K cdv qual=true
 kp:keepIn K (.ref f)=true
section
variable {P:Program} {w:World} {K:PySem.W.Frag} {mg:Str->Option Value} {base:Heap}
theorem Fun.binds {x qual:Str} {st:Stmt} {f:Addr} {fd:FuncData} {ps:List Str} (F:Fun K x qual st f fd)
  (h:∀ (kV doc pm:Value) (an:Option Addr) (cdv ct:Value) (us:List Value),us.length=ps.length->bindArgs (fnOf x qual (gR st) (fZ st) (aH st) .none kV doc pm an cdv ct) ⟨us,[]⟩=pure (ps.zip us)):kI K fd ps []:=by
 obtain⟨oc,od,kV,doc,pm,an,cdv,ct,osl,rfl,lk,hcd⟩:=F.ex
 exact .all (h kV doc pm an cdv ct)
theorem Bq {x qual:Str} {st:Stmt} {f:Addr} {oc:Value} {od an:Option Addr} {osl:Array (Option Value)} {kV doc pm cdv ct:Value} (l:K.lookup f=some ⟨oc,od,.func (fnOf x qual (gR st) (fZ st) (aH st) .none kV doc pm an cdv ct),osl⟩)
  (c:codeIn K cdv qual=true) (k:keepIn K (.ref f)=true):Fun K x qual st f (fnOf x qual (gR st) (fZ st) (aH st) .none kV doc pm an cdv ct):=⟨⟨oc,od,kV,doc,pm,an,cdv,ct,osl,rfl,l,c⟩,k⟩
end
section
variable {X:Cx}
theorem pv (i:Nat) {x:Str} {pos:Pos} (hN:X.N[i]? = some x:=by rfl) (hv:Vis X.env.scope x:=by first | exact Or.inl rfl | exact Or.inr (Or.inl rfl) | exact Or.inr (Or.inr rfl)) (hd:(x == ("__debug__" : Str))=false:=by decide)
  (hcd:(x == ("__classdict__" : Str))=false:=by decide):PE X (.Name x pos) (cR i):=HK hN hv hd hcd
end
theorem bE {A B:Prop} (h:B):if false=true then A else B:=by
 rw[if_neg Bool.false_ne_true]
 exact h
theorem aX {A B:Prop} (h:A):if true=true then A else B:=by
 rw[if_pos rfl]
 exact h
def aG (H H':Hp):Prop:=∀ b o,H b=some o->H' b=some o
theorem aG.refl (H:Hp):aG H H:=fun _ _ h=>h
theorem aG.trans {H H1 H2:Hp} (a:aG H H1) (b:aG H1 H2):aG H H2:=fun c o h=>b c o (a c o h)
theorem aG.free {H H':Hp} (e:aG H H') {l:Addr} (h:H' l=Option.none):H l=Option.none:=by
 cases q:H l with
 | none=>rfl
 | some o=>
  rw[e l o q]at h
  cases h
theorem aG.seq {K:PySem.W.Frag} {H H':Hp} {a:Addr} {xs:List V} (e:aG H H') (h:SqL K H a xs):SqL K H' a xs:=by
 rcases h with (h | ⟨o,h⟩) | h
 ·exact .inl (.inl (e _ _ h))
 ·exact .inl (.inr ⟨o,e _ _ h⟩)
 ·exact .inr h
section
variable {κ : Type} [DecidableEq κ]
theorem wX {p:κ × V} {r:List (κ × V)} {k:κ} (e:p.1=k):hJ (p::r) k=hJ r k:=by
 unfold hJ
 rw[filter_cons,if_neg (by simp [e])]
theorem wY {p:κ × V} {r:List (κ × V)} {k:κ} (e:¬ p.1=k):hJ (p::r) k=p::hJ r k:=by
 unfold hJ
 rw[filter_cons,if_pos (by simp [e])]
end
def Hy (B:Heap) (l:List Env) (e:Addr) (cls a0 fl:Value) (h:Heap):Prop:=B.StaysIn h/\B.get? e=none/\h.FunFrames B l/\h.TracedAtW B e cls a0 fl
structure Fly (P:Program) (w:World) (l:List Env) (H H':Hp) (s s':Shared) (e:Addr) (cls fl:Value):Prop where
 os:s'.os=s.os
 bare:AllBare s'.gens
 fr:∀ b o,s.heap.get? b=some o->H b=none->H' b=none
 tups:∀ b xs,H b=some (.tup xs)->H' b=some (.tup xs)
 frzs:∀ b o u,H b=some (.frz o u)->H' b=some (.frz o u)
 tbls:∀ b ps,H b=some (.tbl ps)->∃ more,H' b=some (.tbl (ps++more))
 sl:∀ b o,s.heap.get? b=some o->b∈frs l->∃ sl,s'.heap.get? b=some { o with slots:=sl }
 fly:∃ B a0,Hy B l e cls a0 fl s'.heap/\HOk P w H' B/\(∀ b o,s.heap.get? b=some o->H b=none->b ∉ frs l->B.get? b=some o)/\∀ b o,s.heap.get? b=some o->b ∉ frs l->∃ o',B.get? b=some o'
section
variable {P:Program} {w:World} {l:List Env} {H H':Hp} {s s':Shared} {e:Addr} {cls fl:Value}
theorem Fp {h h':Heap} {B:Heap} {l:List Env} (fl:h.FunFrames B l) (u:h.UpToSlots h') {b:Addr} {o:Obj} {sl:Array (Option Value)} (hb:b∈frs l) (e:h.get? b=some { o with slots:=sl }):∃ sl',h'.get? b=some { o with slots:=sl' }:=by
 obtain⟨_,o',ho,hd⟩:=fl.mem hb
 rw[e]at ho; cases ho
 obtain⟨sl',z⟩:=u b _ e hd
 exact⟨sl',z⟩
theorem Fly.go (F:Fly P w l H H' s s' e cls fl):∃ B a0,Hy B l e cls a0 fl s'.heap/\∀ h' fl',Hy B l e cls a0 fl' h'->s'.heap.UpToSlots h'->Fly P w l H H' s { s' with heap:=h' } e cls fl':=by
 obtain⟨B,a0,fl,hk,kp,th⟩:=F.fly
 refine⟨B,a0,fl,fun h' fl' f' up=>⟨F.os,F.bare,F.fr,F.tups,F.frzs,F.tbls,fun b o q hb=>?_,B,a0,f',hk,kp,th⟩⟩
 obtain⟨sl,z⟩:=F.sl b o q hb
 exact Fp (o:=o) fl.2.2.1 up hb z
theorem Fly.drop {env:Env} {outer:List Env} {L:Addr} {H₀ : Hp} {s₀ : Shared} (F:Fly P w (env::outer) H H' s s' e cls fl) (hf:env.frame=some L)
  (hL:s₀.heap.objs.size<=L) (ho:s.os=s₀.os) (U:Un (frs outer) [] H₀ H s₀.heap s.heap) (hn:∀ b∈frs outer,H₀ b=none):Fly P w outer H₀ H' s₀ s' e cls fl:=by
 obtain⟨B,a0,⟨f1,f2,⟨_,_,f3⟩,f4⟩,hk,kp,th⟩:=F.fly
 have sub:∀ b,b∈frs (env::outer)->b=L\/b∈frs outer:=fun b hb=>by
  unfold frs at hb
  rw[filterMap_cons,hf]at hb
  exact mem_cons.mp hb
 have sup:∀ b,b∈frs outer->b∈frs (env::outer):=fun b hb=>by
  unfold frs
  rw[filterMap_cons,hf]
  exact mem_cons_of_mem _ hb
 have old:∀ b o,s₀.heap.get? b=some o->b ∉ frs outer->b ∉ frs (env::outer):=fun b o q hb z=>by
  rcases sub b z with rfl | z
  ·exact absurd (lt_of_lt_of_le (lt_size q) hL) (lt_irrefl _)
  ·exact hb z
 have nx:∀ b,b ∉ ([]:List Addr):=fun b=>by simp
 refine⟨F.os.trans ho,F.bare,fun b o q n=>?_,fun b xs q=>F.tups b xs (U.tups b xs q),fun b o u q=>F.frzs b o u (U.frzs b o u q),fun b ps q=>?_,fun b o q hb=>?_,B,a0,⟨f1,f2,f3,f4⟩,hk,fun b o q n hb=>?_,fun b o q hb=>?_⟩
 ·obtain⟨o',z⟩:=U.there b o q (nx b)
  exact F.fr b o' z (U.free b o q n (nx b))
 ·obtain⟨m1,z1⟩:=U.tbls b ps q
  obtain⟨m2,z2⟩:=F.tbls b _ z1
  exact⟨m1++m2,by rw[z2,Array.append_assoc]⟩
 ·obtain⟨sl,z⟩:=U.slot b o q (hn b hb) hb (nx b)
  obtain⟨sl',z'⟩:=F.sl b _ z (sup b hb)
  exact⟨sl',z'⟩
 ·exact kp b o (U.keep b o q n hb (nx b)) (U.free b o q n (nx b)) (old b o q hb)
 ·obtain⟨o',z⟩:=U.there b o q (nx b)
  exact th b o' z (old b o q hb)
theorem E9 {P:Program} {w:World} {H:Hp} {h:Heap} {l:List Addr} (x:HOk P w H h) (hl:∀ b∈l,H b=none):HOk P w H (hideAll h l):=fun a o e=>
 (x a o e).stay (fun b u hb q=>hideAll_get _ q fun hm=>by
  have n:=hl b hm
  rcases hb with rfl | hb
  ·rw[e]at n; cases n
  ·rw[hb]at n; cases n) (fun _ q=>q) fun _ _ q=>q
section
variable {M:Model} {A:Around} {E:Value->Shared->Prop} {Q:Unit->Shared->Prop} {env:Env} {outer:List Env} {L:Addr}
theorem FI (F:Fly P w l H H' s s' e cls fl) (hQ:∀ h',Fly P w l H H' s { s' with heap:=h' } e cls .none->Q () { s' with heap:=h' }):wpAny M A (setFlight (.ref e) none) Q E s':=by
 obtain⟨B,a0,⟨f1,f2,f3,f4⟩,go⟩:=F.go
 exact wpAny_setFlight_noneW f1 f3 f4 fun h' k1 k2 k3 k4=>hQ h' (go h' _ ⟨k1,f2,k2,k3⟩ fun b o hb hn=>⟨o.slots,k4 b o hb hn⟩)
theorem FF (F:Fly P w l H H' s s' e cls fl) (hQ:∀ h',Fly P w l H H' s { s' with heap:=h' } e cls (rawInt L)->Q () { s' with heap:=h' }):wpAny M A (setFlight (.ref e) (some L)) Q E s':=by
 obtain⟨B,a0,⟨hkb,hen,hl,oe,vs,T,oT,ts,he,hcls,hd,h1,hnT,hTe,hT,hdT,h3⟩,go⟩:=F.go
 have hsz3:3<ts.size:=(Array.getElem?_eq_some_iff.mp h3).1
 have other:∀ b,b≠T->(s'.heap.update T (Obj.mapFields (·.setIfInBounds 3 ((some L).elim Value.none fun f=>rawInt f)))).get? b=s'.heap.get? b:=
  fun b hb=>Heap.get?_update_other _ _ (Ne.symm hb)
 have noRecord:∀ b o,s'.heap.get? b=some o->(∀ vs,o.data ≠ .fields vs)->b≠T:=fun b o hb hnf q=>by
  rw[q,hT]at hb; injection hb with hb; subst hb; exact hnf ts hdT
 unfold setFlight
 refine wpAny_bind (wpAny_field he hd h1 ?_)
 rw[if_pos (show (Value.ref T != Value.none)=true from by simp)]
 refine wpAny_setField hT hdT hsz3 (hQ _ (go _ _ ⟨fun b o hbo=>(other b fun q=>by rw[q,hnT]at hbo; cases hbo).trans (hkb b o hbo),hen,
  hl.of_keeps fun b o hb hnf=>⟨o,(other b (noRecord b o hb hnf)).trans hb,rfl⟩,?_⟩ fun b o hb hnf=>⟨o.slots,(other b (noRecord b o hb hnf)).trans hb⟩))
 exact⟨oe,vs,T,_,_,(other e (Ne.symm hTe)).trans he,hcls,hd,h1,hnT,hTe,Heap.get?_update_self _ hT (Obj.isFreed_of_fields (Obj.data_mapFields hdT _)),Obj.data_mapFields hdT _,by simp [hsz3]⟩
theorem FG (hfr:A.frames=some (env::outer)) (hf:env.frame=some L) (F:Fly P w (env::outer) H H' s s' e cls .none)
  (hQ:∀ h',Fly P w (env::outer) H H' s { s' with heap:=h' } e cls (rawInt L)->Q () { s' with heap:=h' }):wpAny M A (noteFrame (.ref e) env) Q E s':=by
 obtain⟨B,a0,⟨f1,f2,f3,f4⟩,go⟩:=F.go
 exact wpAny_noteFrame_onW hfr f3 hf f4 f1 f2 fun h' ⟨k1,k2,k3,k4⟩=>hQ h' (go h' _ ⟨k1,f2,k2,k3⟩ k4)
theorem DZ (hf:env.frame=some L) (F:Fly P w l H H' s s' e cls (rawInt L)) (hQ:Q () s'):wpAny M A (noteFrame (.ref e) env) Q E s':=by
 obtain⟨B,a0,⟨f1,f2,f3,f4⟩,go⟩:=F.go
 exact wpAny_noteFrame_againW hf f4 hQ
theorem Br (F:Fly P w l H H' s s' e cls fl) {R:Value->Shared->Prop} (hQ:∀ T:Addr,R (.ref T) s'):wpAny M A (field (.ref e) 1) R E s':=by
 obtain⟨B,a0,⟨hkb,hen,hl,oe,vs,T,oT,ts,he,hcls,hd,h1,_⟩,_⟩:=F.go
 exact wpAny_field he hd h1 (hQ T)
end
end
def CXE (P:Program) (w:World):CXT:=fun outer H s E e s'=>∃ (a:Addr) (cls:Value) (H':Hp),e = .ref a/\Fly P w outer H H' s s' a cls .none/\E cls none H'
def AtX (X:Cx) (pins:List (Addr × Obj)) (σ : St) (H':Hp) (s':Shared) (e:Addr) (cls:Value):Prop:=
 (∃ s args,Inv X pins σ H' s/\Heap.MadeExcOf s.heap s'.heap e cls args/\s' = { s with heap:=s'.heap })\/
 ∃ H s fl,Inv X pins σ H s/\Fly X.prog X.w X.stack H H' s s' e cls fl/\(fl = .none\/fl=rawInt X.env.locals)
structure Own (X:Cx):Prop where
 stk:X.stack=X.env::X.outer
 fra:X.env.frame=some X.env.locals
 ex:X.ex=[]
section
variable {X:Cx} {pins:List (Addr × Obj)} {σ : St} {H':Hp} {s':Shared} {e:Addr} {cls:Value}
theorem DK {M:Model} {A:Around} {E:Value->Shared->Prop} {Q:Unit->Shared->Prop} (O:Own X) (hfr:A.frames=some X.stack) {s:Shared} {args:List Value} (I:Inv X pins σ H' s) (mk:Heap.MadeExcOf s.heap s'.heap e cls args) (es:s' = { s with heap:=s'.heap })
  (hQ:∀ h',Fly X.prog X.w X.stack H' H' s { s' with heap:=h' } e cls (rawInt X.env.locals)->Q () { s' with heap:=h' }):wpAny M A (noteFrame (.ref e) X.env) Q E s':=by
 have hst:=I.stack
 have hfree:=I.stkFree
 have hin:∀ env∈X.stack,∀ a,env.frame=some a->a∈frs X.stack:=fun env he a ha=>List.mem_filterMap.mpr ⟨env,he,ha⟩
 obtain⟨t,he,htn,ht⟩:=mk.there
 have FH:=PySem.W.funFrames_hide (as:=frs X.stack) hst hin
 have hen:(hideAll s.heap (frs X.stack)).get? e=none:=by
  cases q:(hideAll s.heap (frs X.stack)).get? e with
  | none=>rfl
  | some o=>have:=of_hideAll _ q; rw[mk.new]at this; cases this
 have os':s'.os=s.os:=by rw[es]
 have gs':s'.gens=s.gens:=by rw[es]
 unfold noteFrame
 simp only[O.fra]
 refine wpAny_bind (wpAny_field he rfl (x:=Value.none) rfl ?_)
 rw[if_neg (by decide)]
 have FH':s.heap.FunFrames (hideAll s.heap (frs X.stack)) (X.env::X.outer):=by
  have z:=O.stk
  rw[<- z]
  exact FH
 rw[O.stk]at hfr
 refine wpAny_entryW (base:=hideAll s.heap (frs X.stack)) (a0:=.ref t) hfr (FH'.of_keeps fun b o hb _=>⟨o,mk.keeps b o hb,rfl⟩) O.fra he (fun b o z=>mk.keeps b o (of_hideAll _ z)) hen rfl (by simp) rfl fun h2 hN=>?_
 obtain⟨k1,k2,k3,k4⟩:=hN
 refine hQ h2 ⟨os',by rw[gs']; exact I.bare,fun b o z n=>n,fun b xs q=>q,fun b o u q=>q,fun b ps q=>⟨#[],by rw[q]; simp⟩,fun b o z hb=>?_,_,_,⟨k1,hen,(by have z:=O.stk; rw[<- z]at k2; exact k2),k3⟩,E9 I.hok hfree,fun b o z n hb=>hideAll_get _ z hb,fun b o z hb=>⟨o,hideAll_get _ z hb⟩⟩
 obtain⟨_,o',ho,hd⟩:=hst.mem hb
 rw[z]at ho; cases ho
 exact k4 b _ (mk.keeps _ _ z) hd
theorem Ck {M:Model} {A:Around} {E:Value->Shared->Prop} {Q:Unit->Shared->Prop} (O:Own X) (hfr:A.frames=some X.stack) (F:AtX X pins σ H' s' e cls)
  (hQ:∀ H s h',Inv X pins σ H s->Fly X.prog X.w X.stack H H' s { s' with heap:=h' } e cls (rawInt X.env.locals)->Q () { s' with heap:=h' }):wpAny M A (noteFrame (.ref e) X.env) Q E s':=by
 rcases F with ⟨s,args,I,mk,es⟩ | ⟨H,s,fl,I,F,rfl | rfl⟩
 ·exact DK O hfr I mk es fun h' F=>hQ _ _ h' I F
 ·rw[O.stk]at hfr F
  exact FG hfr O.fra F fun h' F'=>hQ H s h' I (by rw[O.stk]; exact F')
 ·refine DZ O.fra F ?_
  have:=hQ H s s'.heap I F
  exact this
theorem Fc {M:Model} {A:Around} {E:Value->Shared->Prop} {Q:Unit->Shared->Prop} (O:Own X) (hfr:A.frames=some X.stack) (F:AtX X pins σ H' s' e cls)
  (hQ:∀ h',Fly X.prog X.w X.outer X.H₀ H' X.s₀ { s' with heap:=h' } e cls .none->Q () { s' with heap:=h' }):wpAny M A (leaving X.env (.ref e)) Q E s':=by
 unfold leaving
 refine wpAny_bind (Ck O hfr F fun H s h' I F'=>?_)
 refine FI F' fun h2 F2=>hQ h2 ?_
 rw[O.stk]at F2
 have U:=I.base
 rw[O.ex]at U
 exact F2.drop O.fra I.ok.above I.os U I.ok.frf
end
noncomputable abbrev XC:=Value->St->Hp->Prop
def XP (X:Cx) (R:XC) (e:Value) (s':Shared):Prop:=∃ (pins:List (Addr × Obj)) (a:Addr) (cls:Value) (σ : St) (H':Hp),e = .ref a/\AtX X pins σ H' s' a cls/\R cls σ H'
section
variable {X:Cx} {R:XC}
theorem AtX.frames {pins:List (Addr × Obj)} {σ : St} {H':Hp} {s':Shared} {e:Addr} {cls:Value} (F:AtX X pins σ H' s' e cls):X.A.frames=some X.stack:=by
 rcases F with ⟨s,args,I,_⟩ | ⟨H,s,fl,I,_⟩
 ·exact I.ok.frames
 ·exact I.ok.frames
theorem G0 (O:Own X):PassesOwn (model X.prog X.w) X.A X.env (XP X R):=by
 rintro _ s' ⟨pins,a,cls,σ,H',rfl,F,q⟩
 refine Ck O F.frames F fun H s h' I F'=>?_
 unfold cameBackBy
 refine wpAny_bind (Br F' fun T=>?_)
 rw[if_neg (show ¬ ((Value.ref T == Value.none)=true) from by simp)]
 rw[O.fra]
 exact FF F' fun h2 F2=>⟨pins,a,cls,σ,H',rfl,.inr ⟨H,s,_,I,F2,.inr rfl⟩,q⟩
end
noncomputable abbrev Cx.bod (X:Cx) (E:XK):Cx:=X.wish (XP X fun c _ H=>E c none H)
section
variable {X:Cx} {E E':XK}
theorem eM {P:Program} {w:World} {K:PySem.W.Frag} {mg:Str->Option Value} {base:Heap} {N:List Str} {qual:Str} {scope:Scope} {f:Addr} {cd:Value} {A:Around} {outer:List Env} {s:Shared} {H:Hp} {CX:CXT} :
  Own (Bu CX P w K mg base N qual scope f cd A outer s H E):=⟨rfl,rfl,rfl⟩
theorem passB (hE:∀ c o H,E' c o H->E c none H):fM (CXE X.prog X.w) (X.bod E) E':=by
 intro pins σ H1 s1 e s' I ⟨a,cls,H',he,F,q⟩
 exact⟨pins,a,cls,σ,H',he,.inr ⟨H1,s1,.none,I.unwish,F,.inl rfl⟩,hE _ _ _ q⟩
theorem bO:fM (CXE X.prog X.w) (X.bod E) (fun c _ H=>E c none H):=passB fun _ _ _ q=>q
theorem a8 {X:Cx} {P:Program} {w:World}:fM (CXE P w) X E0:=fun _ _ _ _ _ _ _ ⟨_,_,_,_,_,q⟩=>False.elim q
def Fh (X:Cx) (E:Value->Hp->Prop):Prop:=∀ (pins:List (Addr × Obj)) (σ : St) (H:Hp) (s:Shared) (h':Heap) (e:Addr) (cls:Value) (args:List Value),Inv X pins σ H s->Heap.MadeExcOf s.heap h' e cls args->E cls H->X.xe (.ref e) { s with heap:=h' }
theorem fG:Fh (X.bod E) (fun c H=>E c none H):=fun pins σ H s h' e cls args I mk q=>⟨pins,e,cls,σ,H,rfl,.inl ⟨s,args,I.unwish,mk,rfl⟩,q⟩
theorem m6 (O:Own X):PassesOwn (model X.prog X.w) X.A X.env (X.bod E).xe:=G0 O
end
section
variable {P:Program} {w:World} {K:PySem.W.Frag} {mg:Str->Option Value} {base:Heap}
theorem PSs.leave {X:Cx} {E:XK} {st:List Stmt} {t:TS} (O:Own X) (hx:X.xe=fun e s'=>wpAny (model X.prog X.w) X.A (leaving X.env e) (fun _ s''=>CXE X.prog X.w X.outer X.H₀ X.s₀ E e s'') (fun e' s''=>CXE X.prog X.w X.outer X.H₀ X.s₀ E e' s'') s')
  (h:PSs (X.bod E) st t):PSs X st t:=fun pins s σ H D I hw=>
 wpAny_mono (h pins s σ H D (I.wish _) hw) (fun _ _ q=>q.unwish) fun e s' ⟨pins,a,cls,σ,H',he,F,q⟩=>by
  subst he
  rw[hx]
  exact Fc O F.frames F fun h' F'=>⟨a,cls,H',rfl,F',q⟩
theorem Fun.okX {x qual:Str} {st:Stmt} {f:Addr} {fd:FuncData} {N ps:List Str} {k:Nat} {sp:Sp} (F:Fun K x qual st f fd) (S:FnScope N ps (aH st)) (len:∀ vs H Q E,sp vs H Q E->vs.length=ps.length)
  (hbody:∀ (cdv:Value) (A:Around) (outer:List Env) (s:Shared) (H:Hp) (vs:List V) (Q:VK) (E:XK),Room k (A.deeper (envOfC qual (aH st) s.heap.objs.size f cdv))->sp vs H Q E->
   ∃ t,PSs ((Bu (CXE P w) P w K mg base N qual (aH st) f cdv A outer s H E).bod E) (fZ st) t/\t { nx:=fun _ H'=>Q .non H',rt:=Q } (qW N vs) H):FnOk P w K mg base (CXE P w) (k+1) f fd ps sp:=by
 obtain⟨oc,od,kV,doc,pm,an,cdv,ct,osl,rfl,lk,hcd⟩:=F.ex
 refine fn_of lk hcd S len fun A outer s H vs Q E hr hsp=>?_
 obtain⟨t,h,q⟩:=hbody cdv A outer s H vs Q E hr hsp
 exact⟨t,PSs.leave eM rfl h,q⟩
end
noncomputable def GL (K:PySem.W.Frag) (N:Addr):Bool:=match K.lookup N with
 | some ⟨_,_,.dict es _,_⟩=>es.toList.all (fun e=>match e.key with | .str _ _=>true | _=>false) && (es.toList.find? (·.key.isStr "__init__")).isNone
 | _=>false
theorem CP {K:PySem.W.Frag} {h:Heap} {N:Addr} (X:K.In h) (e:GL K N=true):∃ m,h.Ns N m/\m "__init__" = none:=by
 unfold GL at e
 split at e
 ·rename_i c d es n sl q
  rw[and_eq_true]at e
  obtain⟨e1,e2⟩:=e
  refine⟨nsFind es,⟨_,es,n,X _ _ q,rfl,fun en hen=>?_,fun _=>rfl⟩,?_⟩
  ·have z:=all_eq_true.mp e1 en (by simpa using hen)
   split at z
   ·rename_i a b hk
    exact⟨a,b,hk⟩
   ·cases z
  ·unfold nsFind findBy
   rw[<- Array.find?_toList]
   cases q2:es.toList.find? (·.key.isStr "__init__") with
   | none=>rfl
   | some v=>rw[q2]at e2; cases e2
 ·cases e
noncomputable abbrev B6:List Value:=[.type "ValueError",.type "Exception",.type "BaseException",.type "object"]
noncomputable def sF (K:PySem.W.Frag):List Value->Bool
 | []=>false
 | v::tl=>(v::tl == B6) || (match v with
  | .ref a=>(match K.lookup a with | some ⟨_,_,.cls cd,_⟩=>GL K cd.ns | _=>false) && sF K tl
  | _=>false)
theorem sE {K:PySem.W.Frag} {h:Heap} (X:K.In h):∀ {l:List Value},sF K l=true->OwnTail h B6 l
 | [],e=>by
  unfold sF at e
  cases e
 | v::tl,e=>by
  unfold sF at e
  rw[Bool.or_eq_true]at e
  rcases e with e | e
  ·rw[beq_iff_eq.mp e]
   exact .base
  ·split at e
   ·rw[and_eq_true]at e
    obtain⟨e1,e2⟩:=e
    split at e1
    ·rename_i c d cd sl q
     obtain⟨m,hn,hi⟩:=CP X e1
     exact .own (X _ _ q) hn hi (sE X e2)
    ·cases e1
   ·cases e
noncomputable def cU (K:PySem.W.Frag) (C:Addr):Bool:=match K.lookup C with
 | some ⟨.type "type",_,.cls cd,sl⟩=>(match cd.mro,sl.toList with
  | .ref C'::bm,[_,_,_,_,some (.builtin n),_]=>C' == C && !cd.hasDel && n == "ValueError.__new__" && GL K cd.ns && sF K bm
  | _,_=>false)
 | _=>false
theorem Da {K:PySem.W.Frag} {h:Heap} {C:Addr} {x:Str} {mg:Str->Option Value} (X:K.In h) (hm:mg x=some (.ref C)) (q:cU K C=true):OwnCls x C B6 "ValueError.__new__" mg h:=by
 unfold cU at q
 split at q
 ·rename_i dd cd sl ho
  split at q
  ·rename_i C' bm k0 k1 k2 k3 n k5 hmr hs
   simp only[and_eq_true,beq_iff_eq,Bool.not_eq_true']at q
   obtain⟨⟨⟨⟨rfl,hdel⟩,rfl⟩,hn⟩,ht⟩:=q
   obtain⟨m,hns,hni⟩:=CP X hn
   obtain⟨nm,bs,mro,ns,qn,hd,sn,sub,ab,col,del⟩:=cd
   dsimp only at hmr hdel hns
   subst hmr hdel
   have hsl:sl = #[k0,k1,k2,k3,some (.builtin "ValueError.__new__"),k5]:=by
    obtain⟨l⟩:=sl
    simp only at hs
    rw[hs]
   subst hsl
   exact⟨hm,bm,ns,nm,qn,bs,hd,sn,sub,ab,col,dd,k0,k1,k2,k3,k5,m,X _ _ ho,hns,hni,sE X ht⟩
  ·cases q
 ·cases q
def G7 (C:Addr) (E:Value->Hp->Prop) (t:TA):TS:=fun _ σ H=>t σ H fun vs H1=>vs.length<=sizeLine/\E (.ref C) H1
theorem dM {X:Cx} {x:Str} {C:Addr} {np cpos pos:Pos} {e₀ : Expr} {rest:List Expr} {t:TA} {E:Value->Hp->Prop} (hR:Fh X E) (hc:X.calm=true) (hC:cU X.K C=true) (hg:Gl X x) (hm:X.mg x=some (.ref C)) (ha:PA X (e₀ :: rest) t)
  (he:starEach (e₀ :: rest) X.env=(false,eval e₀ X.env)::starEach rest X.env:=by rfl) (hpl:(backTo cpos (starEach rest X.env)).any (·.1)=false:=by rfl) (hd:(x == ("__debug__" : Str))=false:=by decide) :
  PS X (.Raise (some (.Call (.Name x np) (e₀ :: rest) [] cpos)) none pos) (G7 C E t):=by
 intro pins s σ H D I h
 have O:OwnCls x C B6 "ValueError.__new__" X.mg X.base:=Da I.mod.kin hm hC
 obtain⟨tl,N,nm,q,bs,hdct,sn,sub,ab,col,dd,k0,k1,k2,k3,k5,mN,hC',hN,hni,T⟩:=O.obj
 refine wpAny_Raise_call_subU (C:=C) (nm:=nm) (q:=q) (N:=N) (bs:=bs) (bm:=tl) (hdct:=hdct) (sn:=sn) (sub:=sub) (ab:=ab) (col:=col) (dd:=dd) (k0:=k0) (k1:=k1) (k2:=k2) (k3:=k3) (k5:=k5)
  PySem.F.excBase_ValueError (by decide) PySem.F.excBase_ValueError (mN:=mN) (T.hasType PySem.F.excBase_ValueError.hasBase) (I.ok.hd hc) (by rw[he]; show (false || (backTo cpos (starEach rest X.env)).any (·.1))=false; rw[hpl]; rfl) hni (o5 I hg hm ⟨rfl,?_⟩ hd)
 have ha':=ha cpos pins s σ H _ I h
 rw[he]at ha' ⊢
 refine Calls.evalArgs_plain (wpAny_mono ha' (fun vs s₂ z=>?_) fun _ _ y=>y)
 obtain⟨ws,H2,I2,r2,z,q2⟩:=z
 exact⟨rfl,by rw[<- r2.length]; exact z,I2.bk _ _ hC',hN.keeps I2.bk,T.keeps I2.bk,fun h' e mk=>hR pins σ H2 s₂ h' e _ _ I2 mk q2⟩
structure Callee (P:Program) (w:World) (K:PySem.W.Frag) (mg:Str->Option Value) (base:Heap) (x:Str) (k:Nat) (ps:List Str) (sp:Sp):Prop where
 ex:∃ f fd,FnOk P w K mg base (CXE P w) k f fd ps sp/\mg x=some (.ref f)/\keepIn K (.ref f)=true/\kI K fd ps []
structure Method (P:Program) (w:World) (K:PySem.W.Frag) (mg:Str->Option Value) (base:Heap) (C:Addr) (m:Str) (k:Nat) (ps:List Str) (sp:Sp):Prop where
 ex:∃ f fd,FnOk P w K mg base (CXE P w) k f fd ps sp/\Meth K C m f/\kI K fd ps []
structure Maker (P:Program) (w:World) (K:PySem.W.Frag) (mg:Str->Option Value) (base:Heap) (x:Str) (C:Addr) (k:Nat) (ps:List Str) (sp:Sp):Prop where
 ex:∃ f fd,FnOk P w K mg base (CXE P w) k f fd ps sp/\Mk K C f/\mg x=some (.ref C)/\kI K fd ps []
def tFn (sp:Sp) (E:XK) (t:TA):TE:=fun σ H Q=>t σ H fun vs H1=>sp vs H1 Q E
def tMe (C:Addr) (m:Str) (sp:Sp) (E:XK) (ta:TE) (t:TA):TE:=fun σ H Q=>ta σ H fun x H1=>∃ a dx fs,x = .ref a/\H1 a=some (.ins C dx fs)/\fs.lookup m=none/\t σ H1 fun vs H2=>sp (x::vs) H2 Q E
def tMk (C:Addr) (sp:Sp) (E:XK) (t:TA):TE:=fun σ H Q=>t σ H fun vs H1=>∀ x dx,H1 x=none->H1 dx=none->dx≠x->
 sp (.ref x::vs) (upd (upd H1 dx (.own x)) x (.ins C dx [])) (fun v H2=>v = .non/\Q (.ref x) H2) E
section
variable {X:Cx} {k:Nat} {C:Addr} {ps:List Str} {sp:Sp} {E:XK} {x m:Str} {p pos apos:Pos} {e o:Expr} {es:List Expr} {ta:TE} {t:TA}
theorem Ct {st:St} {H:Hp} {Q:VK} (h:tFn sp E t st H Q):D4 sp [] E t st H Q:=by
 unfold D4
 unfold tFn at h
 have e:(fun vs H1=>sp (vs++[]) H1 Q E)=fun vs H1=>sp vs H1 Q E:=by
  funext vs H1
  rw[append_nil]
 rw[e]
 exact h
theorem bF (c:Callee X.prog X.w X.K X.mg X.base x k ps sp) (hr:Room k X.A) (hx:fM (CXE X.prog X.w) X E) (ha:PA X (e::es) t) (hg:Gl X x:=by rfl) (hdb:(x == ("__debug__" : Str))=false:=by decide)
  (he:starEach (e::es) X.env=(false,eval e X.env)::starEach es X.env:=by rfl) (hpl:(backTo pos (starEach es X.env)).any (·.1)=false:=by rfl):PE X (.Call (.Name x p) (e::es) [] pos) (tFn sp E t):=by
 obtain⟨f,fd,F,hm,hk,hb⟩:=c.ex
 intro pins s σ H Q I h
 exact F6 F hr hg hm hk hb .nil hx ha hdb he hpl pins s σ H Q I (Ct h)
theorem vU {st:St} {H:Hp} {Q:VK} (h:tMe C m sp E ta t st H Q):B8 C m sp [] E ta t st H Q:=by
 unfold B8
 unfold tMe at h
 have e:(fun(x:V) (H1:Hp)=>∃ a dx fs,x = .ref a/\H1 a=some (.ins C dx fs)/\fs.lookup m=none/\t st H1 fun vs H2=>sp (x::(vs++[])) H2 Q E)=fun x H1=>∃ a dx fs,x = .ref a/\H1 a=some (.ins C dx fs)/\fs.lookup m=none/\t st H1 fun vs H2=>sp (x::vs) H2 Q E:=by
  funext x H1
  simp only[append_nil]
 rw[e]
 exact h
theorem cF {pl:Sem Bool} (c:Method X.prog X.w X.K X.mg X.base C m k ps sp) (cl:Cls X.K C) (hr:Room k X.A) (hx:fM (CXE X.prog X.w) X E) (ho:PE X o ta) (ha:PA X (e::es) t)
  (hst:starEach (e::es) X.env=(false,eval e X.env)::starEach es X.env:=by rfl) (hpl:(backTo pos (starEach es X.env)).any (·.1)=false:=by rfl)
  (ht:eval (.Call (.Attribute o m apos) (e::es) [] pos) X.env=(do
   let ov <- eval o X.env
   standAt apos.atName
   let (f,first) <- holding [ov] (getMethod ov m pl)
   callWith pos f first (backTo pos (starEach (e::es) X.env)) (backToKw pos (keywordEach [] X.env))):=by rfl) :
  PE X (.Call (.Attribute o m apos) (e::es) [] pos) (tMe C m sp E ta t):=by
 obtain⟨f,fd,F,hm,hb⟩:=c.ex
 intro pins s σ H Q I h
 exact F3 ho cl hm F hr hb .nil hx ha hst hpl ht pins s σ H Q I (vU h)
theorem eJ {pl:Sem Bool} (c:Method X.prog X.w X.K X.mg X.base C m k ps sp) (cl:Cls X.K C) (hr:Room k X.A) (hx:fM (CXE X.prog X.w) X E) (ho:PE X o ta)
  (ht:eval (.Call (.Attribute o m apos) [] [] pos) X.env=(do
   let ov <- eval o X.env
   standAt apos.atName
   let (f,first) <- holding [ov] (getMethod ov m pl)
   callWith pos f first (backTo pos (starEach [] X.env)) (backToKw pos (keywordEach [] X.env))):=by rfl) :
  PE X (.Call (.Attribute o m apos) [] [] pos) (tMe C m sp E ta eQ):=by
 obtain⟨f,fd,F,hm,hb⟩:=c.ex
 intro pins s σ H Q I h
 exact Ee ho cl hm F hr hb .nil hx ht pins s σ H Q I (vU h)
theorem vV {st:St} {H:Hp} {Q:VK} (h:tMk C sp E t st H Q):B9 C sp [] E t st H Q:=by
 unfold B9
 unfold tMk at h
 simp only[append_nil]
 exact h
theorem Gv (c:Maker X.prog X.w X.K X.mg X.base x C k ps sp) (hr:Room (k+1) X.A) (hx:fM (CXE X.prog X.w) X E) (ha:PA X (e::es) t) (hg:Gl X x:=by rfl) (hdb:(x == ("__debug__" : Str))=false:=by decide)
  (he:starEach (e::es) X.env=(false,eval e X.env)::starEach es X.env:=by rfl) (hpl:(backTo pos (starEach es X.env)).any (·.1)=false:=by rfl):PE X (.Call (.Name x p) (e::es) [] pos) (tMk C sp E t):=by
 obtain⟨f,fd,F,M,hm,hb⟩:=c.ex
 intro pins s σ H Q I h
 exact F5 M F hr hg hm hb .nil hx ha hdb he hpl pins s σ H Q I (vV h)
end
noncomputable abbrev TX:=Ends->XC->St->Hp->Prop
noncomputable abbrev TEX:=St->Hp->VK->(Value->Hp->Prop)->Prop
section
variable {X:Cx} {k:Nat} {C:Addr} {ps:List Str} {sp:Sp} {x m:Str} {p pos apos:Pos} {e o:Expr} {es:List Expr} {ta:TE} {t:TA}
variable {st:Stmt} {sts rest:List Stmt} {tS:TS} {tx ux:TX} {te:TEX}
end
section
variable {X:Cx} {pins:List (Addr × Obj)} {σ : St} {H:Hp} {s:Shared} {e:Addr}
end
section
variable {prog:Program} {w:World} {A:Around} {R:Result->Shared->Prop} {s:Shared}
theorem Aj {elt target iter:Expr} {ifs:List Expr} {scope:Scope} {pos:Pos} {it acc:Value} {env:Env} (I:Nat->Shared->Prop)
  (turn:∀ n s,I n s->wpAny (model prog w) A (pyNext it) (fun r s₁=>match r with
   | none=>R (.ok .next) s₁
   | some v=>wpAny (model prog w) A (letOwnedTupleGo target it v) (fun _ s₁'=>wpAny (model prog w) A (assign target env v) (fun _ s₂=>
     wpAny (model prog w) A (forIn ifs true fun c r=>if r=true then do let ok <- isTrue c env (eval c env); pure (ForInStep.yield ok) else pure (ForInStep.yield r)) (fun ok s₃=>
      if ok=true then wpAny (model prog w) A (eval elt env) (fun x s₄=>
       wpAny (model prog w) A (call (.builtin "list.append") [acc,x]) (fun _ s₅=>∃ m,m<n/\I m s₅) (fun _ _=>False) s₄) (fun _ _=>False) s₃
      else ∃ m,m<n/\I m s₃) (fun _ _=>False) s₂) (fun _ _=>False) s₁') (fun _ _=>False) s₁) (fun _ _=>False) s)
  (n:Nat) (h:I n s) :
  codeAny (model prog w) A (.compLoop (.ListComp elt [⟨target,iter,ifs,0⟩] scope pos) 0 it acc env) R s:=by
 refine codeAny_loop rfl I (fun n s hI=>?_) n h
 show wpAny _ A ((compTurn (.ListComp elt [⟨target,iter,ifs,0⟩] scope pos) 0 it acc env).onRaise (fun x=>do noteFrame x env; theTreesLotGoes x)) _ _ s
 refine wpAny_noted ?_
 rw[compTurn_list]
 refine wpAny_noRaise ?_
 refine wpAny_bind (wpAny_standAt (wpAny_bind (wpAny_mono (turn n s hI) (fun r s₁ h₁=>?_) fun _ _ h'=>h')))
 cases r with
 | none=>exact wpAny_pure h₁
 | some v=>
  refine wpAny_bind (wpAny_mono h₁ (fun _ s₁' h₁'=>?_) fun _ _ h'=>h')
  refine wpAny_bind (wpAny_mono h₁' (fun _ s₂ h₂=>wpAny_bind (wpAny_mono h₂ (fun ok s₃ h₃=>?_) fun _ _ h'=>h')) fun _ _ h'=>h')
  cases ok with
  | false=>exact wpAny_pure ⟨rfl,h₃⟩
  | true=>
   exact wpAny_bind (wpAny_bind (wpAny_mono h₃ (fun x s₄ h₄=>wpAny_bind (wpAny_mono h₄ (fun _ s₅ h₅=>wpAny_pure (wpAny_pure ⟨rfl,h₅⟩)) fun _ _ h'=>h')) fun _ _ h'=>h'))
end
noncomputable def u4 (scope:Scope) (env:Env):List (Str × Addr):=(scope.names.filterMap fun y=>if y.2 == .free then (env.cells.lookup y.1).map (fun c=>(y.1,c)) else none).reverse
theorem uD {α β : Type} [BEq α] [LawfulBEq α] {l:List (α × β)} {x:α} {c:β} (h:l.lookup x=some c):(x,c)∈l:=by
 induction l with
 | nil=>cases h
 | cons p r ih=>
  obtain⟨a,b⟩:=p
  rw[List.lookup_cons]at h
  split at h
  ·rename_i e
   cases h
   rw[beq_iff_eq.mp e]
   exact mem_cons_self
  ·exact mem_cons_of_mem _ (ih h)
theorem Ge {scope:Scope} {env:Env} {x:Str} {c:Addr} (h:(u4 scope env).lookup x=some c):env.cells.lookup x=some c:=by
 have m:=uD h
 unfold u4 at m
 rw[List.mem_reverse]at m
 obtain⟨y,_,e⟩:=List.mem_filterMap.mp m
 split at e
 ·cases q:env.cells.lookup y.1 with
  | none=>rw[q]at e; cases e
  | some d=>
   rw[q]at e
   cases e
   exact q
 ·cases e
noncomputable def c9 (X:Cx) (scope:Scope) (Nc:List Str) (C:Addr) (s₂ : Shared) (H₂ : Hp) (ex:List Addr):Cx where
 prog:=X.prog
 w:=X.w
 K:=X.K
 mg:=X.mg
 base:=X.base
 A:=X.A
 N:=Nc
 s₀:=s₂
 H₀:=H₂
 env:=compEnvC scope (u4 scope X.env) C X.env
 outer:=X.stack
 stack:=X.stack
 ex:=ex
 fn:=fun _=>false
 calm:=X.calm
 pn:=[]
 xe:=fun _ _=>False
noncomputable def mF (X:Cx) (scope:Scope) (F:List (Str × Nat)):Bool:=
 scope.names.all (fun y=>y.2 != .cell) && scope.names.all (fun y=>y.2 != .local || scope.names.lookup y.1 == some .local) &&
 (relabel scope X.env).names.all (fun y=>(y.2 != .cell && y.2 != .free) || ((u4 scope X.env).lookup y.1).isSome) &&
 F.all (fun p=>X.N[p.2]? == some p.1 && (X.env.kindOf p.1 == some .cell || X.env.kindOf p.1 == some .free) && ((relabel scope X.env).names.lookup p.1 == some .cell || (relabel scope X.env).names.lookup p.1 == some .free))
noncomputable def lI (T:List Str) (F:List (Str × Nat)) (σ : St):St:=T.map (fun _=>none)++F.map (fun p=>(σ[p.2]?).join)
noncomputable def eP (T:List Str) (F:List (Str × Nat)):List Str:=T++F.map (·.1)
section
variable {X:Cx} {pins:List (Addr × Obj)} {σ : St} {H:Hp} {s:Shared} {scope:Scope} {T:List Str} {F:List (Str × Nat)} {fp:List Addr}
theorem Bw (I:Inv X pins σ H s) (hk:scope.kind = .function) (ok:mF X scope F=true) (hf:∀ b∈fp,rO X pins H b) (ho:∀ b∈fp,∃ o,s.heap.get? b=some o) {h₁ : Heap} {t:Nat}
  (hn:h₁.Ns (s.heap.objs.size+1) (fun _=>none)) (hs:Heap.SameBut (s.heap.objs.size+1) ((s.heap.push { cls:=.type "list",data:=.seq #[] }).push { cls:=.type "dict",data:=.dict #[] }) h₁) :
  Inv (c9 X scope (eP T F) (s.heap.objs.size+1) s H fp) [] (lI T F σ) (upd H s.heap.objs.size (.lst [])) { s with heap:=h₁,toks:=t }:=by
 unfold mF at ok
 simp only[and_eq_true]at ok
 obtain⟨⟨⟨ok1,ok2⟩,ok3⟩,ok4⟩:=ok
 have nH:H s.heap.objs.size=none:=I.hok.fresh (le_refl _)
 have kp:∀ b o,s.heap.get? b=some o->h₁.get? b=some o:=fun b o e=>by
  have l:=lt_size e
  rw[hs.2 b (ne_of_lt (lt_succ_of_lt l))]
  exact get?_push_of_some _ (get?_push_of_some _ e)
 have hD:h₁.get? s.heap.objs.size=some { cls:=.type "list",data:=.seq #[] }:=by
  rw[hs.2 _ (ne_of_lt (lt_succ_self _))]
  exact get?_push_of_some _ (get?_push_size _ rfl)
 have clx:∀ x c,(u4 scope X.env).lookup x=some c->X.env.cells.lookup x=some c:=fun x c e=>Ge e
 have celt:∀ x c,X.env.cells.lookup x=some c->c<s.heap.objs.size:=fun x c e=>by
  obtain⟨v,o,ho,_⟩:=I.cell x c e
  exact lt_size ho
 have OK:(c9 X scope (eP T F) (s.heap.objs.size+1) s H fp).Ok:=by
  refine⟨I.ok.mod,hk,I.ok.glob,I.ok.blt,le_succ _,fun x y c e1 e2=>I.ok.inj x y c (clx _ _ e1) (clx _ _ e2),fun x hx=>?_,(fun x c z=>Bool.noConfusion z),I.ok.hd,I.ok.frames,.inl rfl,fun b hb=>⟨?_,fun x c e=>?_⟩,I.bs,?_,fun b o e hb=>?_,fun b hb hb2=>?_,I.stack,I.stkFree⟩
  ·have hx:(relabel scope X.env).names.lookup x=some .cell\/(relabel scope X.env).names.lookup x=some .free:=hx
   have q:∀ k,(relabel scope X.env).names.lookup x=some k->(k = .cell\/k = .free)->((u4 scope X.env).lookup x).isSome=true:=fun k e hk=>by
    have z:=all_eq_true.mp ok3 (x,k) (uD e)
    rcases hk with rfl | rfl
    ·simpa using z
    ·simpa using z
   rcases hx with hx | hx
   ·exact Option.isSome_iff_exists.mp (q _ hx (.inl rfl))
   ·exact Option.isSome_iff_exists.mp (q _ hx (.inr rfl))
  ·obtain⟨o,e⟩:=ho b hb
   exact ne_of_lt (lt_succ_of_lt (lt_size e))
  ·exact(hf b hb).2.2.2.2.1 x c (clx x c e)
  ·exact le_trans I.ok.bsz I.sz
  ·obtain⟨_,_,_,h4,_⟩:=hf b hb
   rcases h4 with h4 | h4
   ·exact I.ok.noex b o e h4
   ·exact absurd (lt_of_lt_of_le (lt_size e) (le_trans I.ok.bsz h4)) (lt_irrefl _)
  ·rcases mem_cons.mp (I.stkSub b hb2) with z | z
   ·exact(hf b hb).2.1 z
   ·exact(hf b hb).2.2.1 z
 refine⟨OK,rfl,I.bare,Un.laid kp (le_refl _) nH,⟨_,hn,fun i x v e1 e2 hv=>?_⟩,fun x c e=>?_,?_,fun x c e=>?_,fun p hp=>absurd (show p∈([]:List (Addr × Obj)) from hp) (by simp),?_,?_⟩
 ·have e1:(eP T F)[i]? = some x:=e1
  unfold eP at e1
  unfold lI at e2
  by_cases hi:i<T.length
  ·rw[getElem?_append_left (by simpa using hi),getElem?_map]at e2
   cases q:T[i]? with
   | none=>rw[q]at e2; cases e2
   | some z=>rw[q]at e2; cases e2
  ·rw[getElem?_append_right (by simpa using hi),getElem?_map]at e2
   rw[getElem?_append_right (by simpa using hi),getElem?_map]at e1
   rw[length_map]at e2
   cases q:F[i - T.length]? with
   | none=>rw[q]at e2; cases e2
   | some p=>
    rw[q]at e1 e2
    have e1:p.1=x:=Option.some.inj e1
    have e2:(σ[p.2]?).join=some v:=Option.some.inj e2
    subst e1
    have z:=all_eq_true.mp ok4 p (mem_of_getElem? q)
    simp only[and_eq_true,Bool.or_eq_true,beq_iff_eq]at z
    obtain⟨⟨z1,z2⟩,z3⟩:=z
    have e3:σ[p.2]? = some (some v):=by
     cases q2:σ[p.2]? with
     | none=>rw[q2]at e2; cases e2
     | some y=>rw[q2]at e2; exact congrArg some e2
    obtain⟨m,hm,hl⟩:=I.loc
    obtain⟨u,ru,lk⟩:=hl p.2 p.1 v z1 e3 (by rcases z2 with z2 | z2; exact .inr (.inl z2); exact .inr (.inr z2))
    refine⟨u,ru,.inr ⟨z3,?_⟩⟩
    have hc:∃ c,(u4 scope X.env).lookup p.1=some c:=OK.has p.1 z3
    obtain⟨c,hc⟩:=hc
    refine⟨c,hc,?_⟩
    rcases lk with ⟨lk,_⟩ | ⟨_,c',hc',hcell⟩
    ·rcases z2 with z2 | z2
     ·rw[z2]at lk; cases lk
     ·rw[z2]at lk; cases lk
    ·rw[clx _ _ hc]at hc'
     cases hc'
     exact hcell.keeps kp
 ·obtain⟨v,q⟩:=I.cell x c (clx x c e)
  exact⟨v,q.keeps kp⟩
 ·show upd H s.heap.objs.size (.lst []) (s.heap.objs.size+1)=none
  rw[aF (ne_of_gt (lt_succ_self _))]
  exact I.hok.fresh (le_succ _)
 ·have l:=celt x c (clx x c e)
  show upd H s.heap.objs.size (.lst []) c=none
  rw[aF (ne_of_lt l)]
  exact I.freeC x c (clx x c e)
 ·exact I.hok.laid kp (le_refl _) ⟨zero_le _,[],0,.nil,hD⟩
 ·show (lI T F σ).length=(eP T F).length
  unfold lI eP
  simp
def u3 (T:List Str) (F:List (Str × Nat)) (g:TG) (tc:TT) (te:TE) (σ : St) (Q:VK) (J:It) (H1:Hp):Prop:=∀ D,H1 D=none->∃ W:Nat->Nat->List V->St->Hp->Prop,(∃ m,W 0 m [] (lI T F σ) (upd H1 D (.lst [])))/\
 ∀ i m ys σc H2,W i m ys σc H2->H2 D=some (.lst ys)/\((J.stop i H2/\Q (.ref D) H2)\/(J.go i H2/\ys.length<sizeLine/\∀ x H3,J.yld i H2 x H3->g x σc H3 fun σ4 H4=>tc σ4 H4 fun b H5=>
  if b=true then te σ4 H5 fun y H6=>H6 D=some (.lst ys)/\∃ m',m'<m/\W (i+1) m' (ys++[y]) σ4 (upd H6 D (.lst (ys++[y]))) else ∃ m',m'<m/\W (i+1) m' ys σ4 H5))
def nZ (T:List Str) (F:List (Str × Nat)) (wi:TI) (g:TG) (tc:TT) (te:TE):TE:=fun σ H Q=>wi σ H (u3 T F g tc te σ Q)
def PIf (X:Cx) (ifs:List Expr) (t:TT):Prop:=
 ∀ (pins:List (Addr × Obj)) (s:Shared) (σ : St) (H:Hp) (Q:Bool->Hp->Prop),Inv X pins σ H s->t σ H Q->wpAny (model X.prog X.w) X.A (forIn ifs true fun c r=>if r=true then do let ok <- isTrue c X.env (eval c X.env); pure (ForInStep.yield ok) else pure (ForInStep.yield r)) (TP X pins σ Q) X.xe s
def qV:TT:=fun _ H Q=>Q true H
theorem Fz {X:Cx}:PIf X [] qV:=fun pins s σ H Q I h=>wpAny_tests_nil ⟨H,I,h⟩
theorem oV {X:Cx} {c:Expr} {t:TT} (h:PT X c t):PIf X [c] t:=fun pins s σ H Q I q=>wpAny_tests_one (h pins s σ H Q I q)
theorem Ai {s2 s':Shared} {σc:St} {H2 H':Hp} {h':Heap} {Nc:List Str} (I:Inv X pins σ H2 s2) (hf:∀ b∈fp,rO X pins H2 b) (I':Inv (c9 X scope Nc (s2.heap.objs.size+1) s2 H2 fp) [] σc H' s') (hs:Heap.SameBut (s2.heap.objs.size+1) s'.heap h'):Inv X pins σ H' { s' with heap:=h' }:=by
 have U:Un (frs X.stack) fp H2 H' s2.heap s'.heap:=I'.base
 have ne:∀ b o,s2.heap.get? b=some o->b≠s2.heap.objs.size+1:=fun b o e=>ne_of_lt (lt_succ_of_lt (lt_size e))
 have free:H' (s2.heap.objs.size+1)=none:=I'.free
 refine I.call' (s':={ s' with heap:=h' }) (ch:=fp) I'.os ⟨fun b o q n hb hc=>(hs.2 b (ne b o q)).trans (U.keep b o q n hb hc),fun b o q n hb hc=>?_,U.free,fun b o q hc=>?_,U.tups,U.frzs,U.tbls⟩ ?_ I'.bare fun b hb=>?_
 ·obtain⟨sl,z⟩:=U.slot b o q n hb hc
  exact⟨sl,(hs.2 b (ne b o q)).trans z⟩
 ·obtain⟨o',z⟩:=U.there b o q hc
  exact⟨o',(hs.2 b (ne b o q)).trans z⟩
 ·intro a o e
  refine(I'.hok a o e).stay (fun b u hb q=>(hs.2 b ?_).trans q) (fun _ q=>q) fun _ _ q=>q
  rintro rfl
  rcases hb with hb | hb
  ·rw[<- hb,free]at e; cases e
  ·rw[free]at hb; cases hb
 ·obtain⟨f0,f1,f2,f3,f4,f5⟩:=hf b hb
  exact⟨f3,f1,f4,f5⟩
theorem xC {elt tg iter:Expr} {ifs:List Expr} {pos:Pos} {g:TG} {tc:TT} {te:TE} {J:It} {it:Addr} {tn:Nat->Heap->Prop} {s2:Shared} {H2:Hp} {RR:Value->Addr->Result->Shared->Prop} {E:Value->Shared->Prop} {Q:Addr->Hp->Prop}
  (hc:X.calm=true) (hk:scope.kind = .function) (ok:mF X scope F=true)
  (hg:∀ C s₂ H₂ ex,PG (c9 X scope (eP T F) C s₂ H₂ ex) tg g) (hif:∀ C s₂ H₂ ex,PIf (c9 X scope (eP T F) C s₂ H₂ ex) ifs tc) (he:∀ C s₂ H₂ ex,PE (c9 X scope (eP T F) C s₂ H₂ ex) elt te)
  (I2:Inv X pins σ H2 s2) (Tn:Turn X.prog X.w X.K tg J fp it tn) (st2:tn 0 s2.heap) (f2:∀ b∈fp,rO X pins H2 b)
  (h3:∀ D,H2 D=none->∃ W:Nat->Nat->List V->St->Hp->Prop,(∃ m,W 0 m [] (lI T F σ) (upd H2 D (.lst [])))/\
   ∀ i m ys σc H2,W i m ys σc H2->H2 D=some (.lst ys)/\((J.stop i H2/\Q D H2)\/(J.go i H2/\ys.length<sizeLine/\∀ x H3,J.yld i H2 x H3->g x σc H3 fun σ4 H4=>tc σ4 H4 fun b H5=>
    if b=true then te σ4 H5 fun y H6=>H6 D=some (.lst ys)/\∃ m',m'<m/\W (i+1) m' (ys++[y]) σ4 (upd H6 D (.lst (ys++[y]))) else ∃ m',m'<m/\W (i+1) m' ys σ4 H5)))
  (hRR:∀ D s' σc H',Inv (c9 X scope (eP T F) (s2.heap.objs.size+1) s2 H2 fp) [] σc H' s'->Q D H'->RR (.ref D) (s2.heap.objs.size+1) (.ok .next) s') :
  wpAny (model X.prog X.w) X.A (newList []) (fun acc s₃=>wpAny (model X.prog X.w) X.A (newFunctionEnv scope X.env.globals (u4 scope X.env) [] X.env.qual none .none (some X.env)) (fun cenv s₄=>
   codeAny (model X.prog X.w) X.A (.compStart (.ListComp elt [⟨tg,iter,ifs,0⟩] scope pos) 0 (.ref it) acc { cenv with scope:=relabel scope X.env }) (RR acc cenv.locals) s₄) E s₃) E s2:=by
 have ok':=ok
 unfold mF at ok'
 simp only[and_eq_true]at ok'
 obtain⟨⟨⟨ok1,ok2⟩,ok3⟩,ok4⟩:=ok'
 have hcell:∀ y∈scope.names,y.2 ≠ .cell:=fun y hy z=>by
  have:=all_eq_true.mp ok1 y hy
  rw[z]at this
  cases this
 refine wpAny_newObj_type (wpAny_newFunctionEnv hcell (by intro y hy; simp at hy) (fun h₁ hns₁ hsb₁=>?_) hk)
 dsimp only at hns₁ hsb₁ ⊢
 have hsz:(s2.heap.push { cls:=.type "list",dict:=none,data:=.seq ([]:List Value).toArray }).objs.size=s2.heap.objs.size+1:=size_push _ _
 rw[hsz]at hns₁ hsb₁ ⊢
 have I3:Inv (c9 X scope (eP T F) (s2.heap.objs.size+1) s2 H2 fp) [] (lI T F σ) (upd H2 s2.heap.objs.size (.lst [])) { s2 with heap:=h₁,toks:=s2.toks+([]:List (Str × Value)).length }:=
  Bw I2 hk ok f2 (fun b hb=>let ⟨o,e,_⟩:=Tn.obj _ _ st2 b hb; ⟨o,e⟩) hns₁ hsb₁
 obtain⟨W,⟨m0,w0⟩,turn⟩:=h3 s2.heap.objs.size (I2.hok.fresh (le_refl _))
 have stat:∀ {H':Hp},(∀ b∈fp,H' b=none)->∀ b∈fp,rO (c9 X scope (eP T F) (s2.heap.objs.size+1) s2 H2 fp) [] H' b:=fun {H'} hn b hb=>
  ⟨hn b hb,(I3.ok.exf b hb).1,I3.ok.exfs b hb,.inl hb,(I3.ok.exf b hb).2,fun p hp=>absurd (show p∈([]:List (Addr × Obj)) from hp) (by simp)⟩
 have st3:tn 0 h₁:=Tn.keep _ _ _ st2 fun b hb o e=>by
  have l:=lt_size e
  rw[hsb₁.2 b (ne_of_lt (lt_succ_of_lt l))]
  exact get?_push_of_some _ (get?_push_of_some _ e)
 have fr3:∀ b∈fp,(upd H2 s2.heap.objs.size (.lst [])) b=none:=fun b hb=>by
  obtain⟨o,e,_⟩:=Tn.obj _ _ st2 b hb
  rw[aF (ne_of_lt (lt_size e))]
  exact(f2 b hb).1
 have loop:codeAny (model X.prog X.w) X.A (.compLoop (.ListComp elt [⟨tg,iter,ifs,0⟩] scope pos) 0 (.ref it) (.ref s2.heap.objs.size) (compEnvC scope (u4 scope X.env) (s2.heap.objs.size+1) X.env))
   (RR (.ref s2.heap.objs.size) (s2.heap.objs.size+1)) { s2 with heap:=h₁,toks:=s2.toks+([]:List (Str × Value)).length }:=by
  refine Aj (fun n s'=>∃ i ys σ' H',Inv (c9 X scope (eP T F) (s2.heap.objs.size+1) s2 H2 fp) [] σ' H' s'/\tn i s'.heap/\(∀ b∈fp,H' b=none)/\W i n ys σ' H') ?_ m0 ⟨0,[],_,_,I3,st3,fr3,w0⟩
  rintro n s4 ⟨i,ys,σ4,H4,I4,st4,fr4,w4⟩
  obtain⟨hD,go⟩:=turn i n ys σ4 H4 w4
  rcases go with ⟨stop,qn⟩ | ⟨go,hz,step⟩
  ·refine thn (Tn.done (c9 X scope (eP T F) (s2.heap.objs.size+1) s2 H2 fp) rfl rfl rfl hc i [] s4 σ4 H4 (fun _ _=>False) I4 (stat fr4) st4 stop) fun r s5 zQq=>?_
   obtain⟨hr,I5⟩:=zQq
   subst hr
   exact hRR _ s5 σ4 H4 I5 qn
  ·refine thn (Tn.item (c9 X scope (eP T F) (s2.heap.objs.size+1) s2 H2 fp) rfl rfl rfl hc i [] s4 σ4 H4 (fun _ _=>False) I4 (stat fr4) st4 go) fun r s5 zQq=>?_
   obtain⟨u,hr,h5⟩:=zQq
   subst hr
   refine thn h5 fun _ s6 zQq=>?_
   obtain⟨x,H6,I6,r6,y6,st6,fr6⟩:=zQq
   have I6':=I6.pinned (stat fr6) (Tn.obj _ _ st6)
   refine thn (hg _ _ _ _ _ s6 σ4 H6 x u _ I6' r6 (step x H6 y6)) fun _ s7 zQq=>?_
   obtain⟨σ7,H7,I7,q7⟩:=zQq
   refine thn (hif _ _ _ _ _ s7 σ7 H7 _ I7 q7) fun b s8 zQq=>?_
   obtain⟨H8,I8,q8⟩:=zQq
   have again:∀ {s9:Shared} {σ9:St} {H9:Hp} {zs:List V},Inv (c9 X scope (eP T F) (s2.heap.objs.size+1) s2 H2 fp) ([]++tT fp s6.heap) σ9 H9 s9->(∃ m',m'<n/\W (i+1) m' zs σ9 H9)->
     ∃ m,m<n/\∃ i ys σ' H',Inv (c9 X scope (eP T F) (s2.heap.objs.size+1) s2 H2 fp) [] σ' H' s9/\tn i s9.heap/\(∀ b∈fp,H' b=none)/\W i m ys σ' H':=fun {s9 σ9 H9 zs} I9 ⟨m',hm,w9⟩=>by
    refine⟨m',hm,i+1,zs,σ9,H9,I9.unpinned,Tn.keep _ _ _ st6 fun b hb o e=>(I9.pin (b,o) (mem_append_right _ (mem_append_right _ (lE hb e)))).1,fun b hb=>?_,w9⟩
    obtain⟨o,e,d⟩:=Tn.obj _ _ st6 b hb
    exact(I9.pin (b,o) (mem_append_right _ (mem_append_right _ (lE hb e)))).2.1
   cases b with
   | false=>
    rw[if_neg Bool.false_ne_true]at q8 ⊢
    exact again I8 q8
   | true=>
    rw[if_pos rfl]at q8 ⊢
    refine thn (he _ _ _ _ _ s8 σ7 H8 _ I8 q8) fun uy s9 zQq=>?_
    obtain⟨y,H9,I9,r9,hD9,q9⟩:=zQq
    refine thn (kA _ s9 σ7 H9 (.ref s2.heap.objs.size) [y] (.ref s2.heap.objs.size) [uy] (fun _ H'=>∃ m',m'<n/\W (i+1) m' (ys++[y]) σ7 H') I9 rfl (.cons r9 .nil) ⟨_,ys,y,rfl,rfl,hD9,hz,q9⟩) fun _ s10 zQq=>?_
    obtain⟨_,H10,I10,_,q10⟩:=zQq
    exact again I10 q10
 exact codeAny_compStart_list loop (Tn.self _ 0 _ _ _ st3 loop)
theorem dI {elt tg iter:Expr} {ifs:List Expr} {pos:Pos} {wi:TI} {g:TG} {tc:TT} {te:TE} (T:List Str) (F:List (Str × Nat)) (hc:X.calm=true) (hi:PI X tg iter wi)
  (hg:∀ C s₂ H₂ ex,PG (c9 X scope (eP T F) C s₂ H₂ ex) tg g) (hif:∀ C s₂ H₂ ex,PIf (c9 X scope (eP T F) C s₂ H₂ ex) ifs tc) (he:∀ C s₂ H₂ ex,PE (c9 X scope (eP T F) C s₂ H₂ ex) elt te)
  (hclos:closureFor scope X.env=pure (u4 scope X.env):=by rfl) (hk:scope.kind = .function:=by rfl) (ok:mF X scope F=true:=by rfl) (hs:∀ x,foldedSetIterable iter X.env x=pure x:=by intro _; rfl) :
  PE X (.ListComp elt [⟨tg,iter,ifs,0⟩] scope pos) (nZ T F wi g tc te):=by
 intro pins s σ H Q I h
 have ok':=ok
 unfold mF at ok'
 simp only[and_eq_true]at ok'
 obtain⟨⟨⟨ok1,ok2⟩,ok3⟩,ok4⟩:=ok'
 have hnames:∀ x∈scope.names,x.2 = .local->scope.names.lookup x.1=some .local:=fun x hx z=>by
  have:=all_eq_true.mp ok2 x hx
  rw[z]at this
  simpa using this
 rw[eval_ListComp]
 refine wpAny_comprehension_free (use:=none) rfl hs hclos hk hnames (thn (hi pins s σ H _ I h) fun v s1 h1=>thn h1 fun itv s2 h2=>?_)
 obtain⟨it,fp,tn,J,H2,e,I2,Tn,st2,f2,h3⟩:=h2
 subst e
 refine xC (RR:=fun acc C=>compPost (model X.prog X.w) X.A X.xe none (EP X pins σ Q) acc C) (Q:=fun D H'=>Q (.ref D) H') hc hk ok hg hif he I2 Tn st2 f2 h3 fun D s' σc H' I' q=>?_
 obtain⟨m,hn,_⟩:=I'.loc
 exact⟨m,hn,fun h' hs'=>⟨.ref D,H',Ai I2 f2 I' hs',rfl,q⟩⟩
theorem Fy {y:Str} {i:Nat} {py spos:Pos} {elt tg iter:Expr} {ifs:List Expr} {pos:Pos} {wi:TI} {g:TG} {tc:TT} {te:TE} (T:List Str) (F:List (Str × Nat)) (hN:X.N.Nodup) (hy:X.N[i]? = some y) (hx:Loc X.env.scope y) (hc:X.calm=true) (hi:PI X tg iter wi)
  (hg:∀ C s₂ H₂ ex,PG (c9 X scope (eP T F) C s₂ H₂ ex) tg g) (hif:∀ C s₂ H₂ ex,PIf (c9 X scope (eP T F) C s₂ H₂ ex) ifs tc) (he:∀ C s₂ H₂ ex,PE (c9 X scope (eP T F) C s₂ H₂ ex) elt te)
  (hsw:swapsWith (.ListComp elt [⟨tg,iter,ifs,0⟩] scope pos) (some (.Name y py)) spos.line X.env=pure true:=by rfl)
  (hclos:closureFor scope X.env=pure (u4 scope X.env):=by rfl) (hk:scope.kind = .function:=by rfl) (ok:mF X scope F=true:=by rfl) (hs:∀ x,foldedSetIterable iter X.env x=pure x:=by intro _; rfl)
  (hfn:X.fn y=true\/X.env.scope.names.lookup y=some .local:=by first | exact .inl rfl | exact .inr rfl | assumption) :
  PS X (.Assign [.Name y py] (.ListComp elt [⟨tg,iter,ifs,0⟩] scope pos) spos) (fun D σ H=>nZ T F wi g tc te σ H fun v H'=>D.nx (σ.set i (some v)) H'):=by
 intro pins s σ H D I h
 have ok':=ok
 unfold mF at ok'
 simp only[and_eq_true]at ok'
 obtain⟨⟨⟨ok1,ok2⟩,ok3⟩,ok4⟩:=ok'
 have hnames:∀ x∈scope.names,x.2 = .local->scope.names.lookup x.1=some .local:=fun x hx z=>by
  have:=all_eq_true.mp ok2 x hx
  rw[z]at this
  simpa using this
 rw[exec_Assign_Name_used _ _ _ _ hsw]
 refine wpAny_bind (wpAny_standAt (wpAny_bind ?_))
 show wpAny _ X.A (do let _ <- comprehension (.ListComp elt [⟨tg,iter,ifs,0⟩] scope pos) scope X.env _ (newList []) false (eval iter X.env) (some (assign (.Name y py) X.env))) _ _ s
 refine wpAny_bind (wpAny_mono (wpAny_comprehension_free (use:=some (assign (.Name y py) X.env)) (Q:=fun _ s'=>SP X pins D .next s') rfl hs hclos hk hnames
  (thn (hi pins s σ H _ I h) fun v s1 h1=>thn h1 fun itv s2 h2=>?_)) (fun _ s' hq=>wpAny_pure (wpAny_pure hq)) fun _ _ e=>e)
 obtain⟨it,fp,tn,J,H2,e,I2,Tn,st2,f2,h3⟩:=h2
 subst e
 refine xC (RR:=fun acc C=>compPost (model X.prog X.w) X.A X.xe (some (assign (.Name y py) X.env)) (fun _ s'=>SP X pins D .next s') acc C) (Q:=fun Dd H'=>D.nx (σ.set i (some (.ref Dd))) H') hc hk ok hg hif he I2 Tn st2 f2 h3 fun Dd s' σc H' I' q=>?_
 have I3:Inv X pins σ H' s':=Ai I2 f2 I' ⟨rfl,fun _ _=>rfl⟩
 obtain⟨m,hn,_⟩:=I'.loc
 obtain⟨oC,es,ep,hoC,hdC,hkC,hmC⟩:=hn
 have fC:H' (s2.heap.objs.size+1)=none:=I'.free
 have hle:s2.heap.objs.size<=s2.heap.objs.size+1:=le_succ _
 have F0:=I2.fpOk (H':=H') hle fC
 obtain⟨g0,g1,g2,g3,g4,g5⟩:=F0
 have I4:Inv X (pins++[(s2.heap.objs.size+1,oC)]) σ H' s':=I3.pins_of fun p hp=>(mem_append.mp hp).elim (fun z=>I3.pin p (mem_append_right _ z)) fun z=>by
  have e:p=(s2.heap.objs.size+1,oC):=by simpa using z
  subst e
  exact⟨hoC,fC,g1,g2,fun v z=>by rw[hdC]at z; cases z⟩
 show wpAny _ X.A (assign (.Name y py) X.env (.ref Dd)) _ _ _
 refine thn (bI (pos:=py) hN hy hx hfn _ s' σ H' (.ref Dd) (.ref Dd) _ I4 rfl (show cO i (.ref Dd) σ H' D.nx from q)) fun _ s5 zQq=>?_
 obtain⟨σ5,H5,I5,q5⟩:=zQq
 have p5:=I5.pin (s2.heap.objs.size+1,oC) (mem_append_right _ (mem_append_right _ (by simp)))
 refine⟨m,⟨oC,es,ep,p5.1,hdC,hkC,hmC⟩,fun h' hs'=>?_⟩
 refine⟨σ5,H5,?_,q5⟩
 have I6:=I5.unpinned
 exact I6.turned (it:=s2.heap.objs.size+1) (t':=s5.toks) (fun b o hb e=>(hs'.2 b hb).trans e) p5.2.1 g1 g3 g4 g5
end
mutual
def Den (H:Hp):PyData->V->Prop
 | .none,v=>v = .non
 | .bool b,v=>v = .bl b
 | .int i,v=>v = .int i
 | .str x,v=>v = .str x
 | .tuple ds,v=>∃ a xs,v = .ref a/\H a=some (.tup xs)/\aV H ds xs
 | .list ds,v=>∃ a xs,v = .ref a/\H a=some (.lst xs)/\aV H ds xs
 | .dict _,_=>False
def aV (H:Hp):List PyData->List V->Prop
 | [],xs=>xs=[]
 | d::ds,xs=>∃ x r,xs=x::r/\Den H d x/\aV H ds r
end
section
variable {X:Cx} {pins:List (Addr × Obj)} {σ : St} {H H':Hp} {s:Shared} {K:PySem.W.Frag}
theorem aG.seqT {a:Addr} {xs:List V} (e:aG H H') (h:SqT K H a xs):SqT K H' a xs:=by
 rcases h with (h | ⟨o,h⟩) | h
 ·exact .inl (.inl (e _ _ h))
 ·exact .inl (.inr ⟨o,e _ _ h⟩)
 ·exact .inr h
mutual
theorem Den.same (e:aG H H'):∀ {d:PyData} {v:V},Den H d v->Den H' d v
 | .none,v,h=>by simp only[Den]at h ⊢; exact h
 | .bool b,v,h=>by simp only[Den]at h ⊢; exact h
 | .int i,v,h=>by simp only[Den]at h ⊢; exact h
 | .str x,v,h=>by simp only[Den]at h ⊢; exact h
 | .tuple ds,v,h=>by
  simp only[Den]at h ⊢
  obtain⟨a,xs,e1,h1,h2⟩:=h
  exact⟨a,xs,e1,e _ _ h1,aV.same e h2⟩
 | .list ds,v,h=>by
  simp only[Den]at h ⊢
  obtain⟨a,xs,e1,h1,h2⟩:=h
  exact⟨a,xs,e1,e _ _ h1,aV.same e h2⟩
 | .dict _,v,h=>by simp only[Den]at h
theorem aV.same (e:aG H H'):∀ {ds:List PyData} {xs:List V},aV H ds xs->aV H' ds xs
 | [],xs,h=>by simp only[aV]at h ⊢; exact h
 | d::ds,xs,h=>by
  simp only[aV]at h ⊢
  obtain⟨x,r,e1,h1,h2⟩:=h
  exact⟨x,r,e1,Den.same e h1,aV.same e h2⟩
end
mutual
theorem kE (I:Inv X pins σ H s):∀ {d:PyData} {v:V} {u:Value},Den H d v->bW v u->∃ as,Reads s.heap u d as
 | .none,v,u,h,r=>by
  simp only[Den]at h
  subst h
  cases (show u=Value.none from r)
  exact⟨_,.none⟩
 | .bool b,v,u,h,r=>by
  simp only[Den]at h
  subst h
  cases (show u=Value.bool b from r)
  exact⟨_,.bool b⟩
 | .int i,v,u,h,r=>by
  simp only[Den]at h
  subst h
  obtain⟨t,e⟩:=(show ∃ t,u=Value.int i t from r)
  subst e
  exact⟨_,.int i t⟩
 | .str x,v,u,h,r=>by
  simp only[Den]at h
  subst h
  obtain⟨t,e⟩:=(show ∃ t,u=Value.str x t from r)
  subst e
  exact⟨_,.str x t⟩
 | .tuple ds,v,u,h,r=>by
  simp only[Den]at h
  obtain⟨a,xs,e1,h1,h2⟩:=h
  subst e1
  cases (show u=Value.ref a from r)
  obtain⟨its,rv,⟨o,ho,hc,n,hd⟩,_⟩:=I.tuple (SqT.of h1)
  obtain⟨as,ra⟩:=nW I h2 rv
  exact⟨as,.tuple ho hc hd (by simpa using ra)⟩
 | .list ds,v,u,h,r=>by
  simp only[Den]at h
  obtain⟨a,xs,e1,h1,h2⟩:=h
  subst e1
  cases (show u=Value.ref a from r)
  obtain⟨its,rv,⟨o,n,ho,hc,_,hd⟩,_⟩:=I.list (SqL.of h1)
  obtain⟨as,ra⟩:=nW I h2 rv
  exact⟨a::as,.list ho hc hd (by simpa using ra)⟩
 | .dict _,v,u,h,r=>by simp only[Den]at h
theorem nW (I:Inv X pins σ H s):∀ {ds:List PyData} {xs:List V} {us:List Value},aV H ds xs->bQ xs us->∃ as,ReadsAll s.heap us ds as
 | [],xs,us,h,r=>by
  simp only[aV]at h
  subst h
  cases r
  exact⟨_,.nil⟩
 | d::ds,xs,us,h,r=>by
  simp only[aV]at h
  obtain⟨x,rr,e1,h1,h2⟩:=h
  subst e1
  cases r with
  | cons r1 r2=>
   obtain⟨as,ra⟩:=kE I h1 r1
   obtain⟨bs,rb⟩:=nW I h2 r2
   exact⟨_,.cons ra rb⟩
end
end
section
variable {X:Cx}
def rEqD:R2:=fun x y H Q=>∃ d e,Den H d x/\Den H e y/\SeqAt.shaped d=true/\SeqAt.shaped e=true/\Q (.bl (PyData.eqv d e)) H
def rNeD:R2:=fun x y H Q=>∃ d e,Den H d x/\Den H e y/\SeqAt.shaped d=true/\SeqAt.shaped e=true/\Q (.bl (!PyData.eqv d e)) H
theorem HP (hu:X.A.units+64<cLine):OpR X (compareOp .Eq) rEqD:=by
 intro pins s σ H x y v u Q I rx ry h
 obtain⟨d,e,h1,h2,s1,s2,q⟩:=h
 obtain⟨as,ra⟩:=kE I h1 rx
 obtain⟨bs,rb⟩:=kE I h2 ry
 exact eq_dataH ra rb s1 s2 hu ⟨.bl _,H,I,rfl,q⟩
theorem yJ (hu:X.A.units+64<cLine):OpR X (compareOp .NotEq) rNeD:=by
 intro pins s σ H x y v u Q I rx ry h
 obtain⟨d,e,h1,h2,s1,s2,q⟩:=h
 obtain⟨as,ra⟩:=kE I h1 rx
 obtain⟨bs,rb⟩:=kE I h2 ry
 exact ne_dataH ra rb s1 s2 hu ⟨.bl _,H,I,rfl,q⟩
def rIsi (K:PySem.W.Frag):List V->Hp->VK->Prop:=fun xs H Q=>∃ x n t b,xs=[x,.ty n]/\TyOf K H x t/\PySem.W.kitOne K t (.type n)=some b/\Q (.bl b) H
theorem FT:eY X (.builtin "isinstance") (rIsi X.K):=by
 intro pins s σ H xs us Q I r h
 obtain⟨x,n,t,b,rfl,ty,hk,q⟩:=h
 cases r with
 | cons r1 r2=>
  cases r2 with
  | cons r2 r3=>
   cases r3
   cases (show _=Value.type n from r2)
   exact DS I r1 ty hk fun tk=>⟨.bl b,H,I.tok tk,rfl,q⟩
theorem aI {H:Hp} {p:Addr} {o:HO} (h:H p=none):aG H (upd H p o):=fun b u e=>by
 rw[aF (bC e h)]
 exact e
def Gu:R2:=fun x y H Q=>∃ a b xs ys,x = .ref a/\y = .ref b/\H a=some (.tup xs)/\H b=some (.tup ys)/\xs.length+ys.length<=sizeLine/\
 ∀ p H',aG H H'->H' p=some (.tup (xs++ys))->Q (.ref p) H'
theorem lC:OpR X (binaryOp .Add) Gu:=by
 intro pins s σ H x y v u Q I rx ry h
 obtain⟨a,b,xs,ys,rfl,rfl,ha,hb,hz,q⟩:=h
 by_cases hx:xs=[]
 ·subst hx
  cases (show v=Value.ref a from rx)
  cases (show u=Value.ref b from ry)
  obtain⟨its,r1,p1,_⟩:=I.tuple (SqT.of ha)
  obtain⟨its2,r2,p2,_⟩:=I.tuple (SqT.of hb)
  cases r1
  obtain⟨⟨cls,dd,data,sl⟩,ho,hc,n,hd⟩:=p1
  obtain⟨⟨cls2,dd2,data2,sl2⟩,ho2,hc2,n2,hd2⟩:=p2
  simp only at hc hd hc2 hd2
  subst hc hd hc2 hd2
  refine concat_meets ⟨_,ho,rfl⟩ ⟨_,ho2,rfl⟩ noFill_tuple_add seq_tuple_add PySem.F.slot_tuple_add PySem.F.entry_tuple_add (PySem.F.args_tuple_add_2 _ _)
   (tuple_addW0 a b _ _ n n2 dd dd2 sl sl2 rfl) ⟨ho,ho2,?_⟩
  exact⟨.ref b,H,I,rfl,q b H (aG.refl H) hb⟩
 ·refine F9 pins s σ H (.ref a) (.ref b) v u Q I rx ry ⟨a,b,xs,ys,rfl,rfl,SqT.of ha,SqT.of hb,hx,hz,fun z=>?_,fun z p hp=>q p _ (aI hp) aC⟩
  subst z
  refine q a H (aG.refl H) ?_
  rw[append_nil]
  exact ha
def rSum (K:PySem.W.Frag):List V->Hp->VK->Prop:=fun xs H Q=>∃ (p:Addr) (ns:List Int),xs=[.ref p]/\(SqL K H p (ns.map V.int)\/SqT K H p (ns.map V.int))/\Q (.int ns.sum) H
theorem l9 (ns:List Int):∀ n,n<=ns.length->PySem.preSum (fun i=>ns.getD i 0) n=(ns.take n).sum
 | 0,_=>by simp [PySem.preSum]
 | n+1,h=>by
  have e:=l9 ns n (by omega)
  have hl:n<ns.length:=by omega
  unfold PySem.preSum
  rw[e,take_succ,List.sum_append]
  simp [List.getD,hl]
theorem CU {ns:List Int}:∀ {us:List Value},bQ (ns.map V.int) us->∀ i v,us.toArray[i]? = some v->∃ t,v=Value.int (ns.getD i 0) t:=by
 intro us r i v hv
 have hv:us[i]? = some v:=by simpa using hv
 have hl:i<us.length:=(List.getElem?_eq_some_iff.mp hv).1
 have hn:i<ns.length:=by
  have:=r.length
  rw[length_map]at this
  omega
 obtain⟨u,hu,ru⟩:=r.get (i:=i) (x:=V.int ns[i]) (by simp [hn])
 rw[hv]at hu
 cases hu
 obtain⟨t,e⟩:=ru
 exact⟨t,by rw[e]; simp [List.getD,hn]⟩
theorem Dg (hc:X.calm=true):eY X (.builtin "sum") (rSum X.K):=by
 intro pins s σ H xs us Q I r h
 obtain⟨p,ns,rfl,hs,q⟩:=h
 cases r with
 | cons r1 r2=>
  cases r2
  cases (show _=Value.ref p from r1)
  have hh:X.A.in1.handled=none:=I.ok.hd hc
  have fin:∀ s',(∀ b o,b ∉ [s.heap.objs.size]->(s.heap.get? b=some o->s'.heap.get? b=some o))->s'.gens=s.gens->s'.os=s.os->∀ t',EP X pins σ Q (.int ns.sum t') s':=fun s' hk hg ho t'=>by
   obtain⟨h',g',d',tk',os'⟩:=s'
   dsimp only at hg ho
   subst hg ho
   refine⟨.int ns.sum,H,I.call (h':=h') (g':=s.gens) (d':=d') (t':=tk') (ch:=[]) (Un.kept fun b u e=>hk b u (by simpa using ne_of_lt (lt_size e)) e) (I.hok.kept fun b u e=>hk b u (by simpa using ne_of_lt (lt_size e)) e) I.bare (fun b z=>absurd z (by simp)),⟨t',rfl⟩,q⟩
  refine call_sum_walkAnyS ?_
  rcases hs with hs | hs
  ·obtain⟨its,rv,pl,hz⟩:=I.list hs
   have hlen:its.toArray.size=ns.length:=by
    have:=rv.length
    rw[length_map]at this
    simp [this]
   have ne:p≠s.heap.objs.size:=by
    obtain⟨o,n,ho,_⟩:=pl
    exact ne_of_lt (lt_size ho)
   refine wpAny_pyIter_list pl.isList ⟨s.heap.objs.size,_,_,_,_,_,_,(fun i=>ns.getD i 0),rfl,(Walks.list hh s.heap.objs.size p ne its.toArray).toS,⟨⟨_,get?_push_size _ rfl,rfl,rfl⟩,?_⟩,?_,fun i v hv=>CU rv i v hv,fun s' t' mv=>?_⟩
   ·obtain⟨o,n,ho,hc1,hd1,hd2⟩:=pl
    exact⟨o,get?_push_of_some _ ho,hc1,n,hd2⟩
   ·obtain⟨o,n,ho,_⟩:=pl
    intro b hb
    rw[size_push]
    rcases mem_cons.mp hb with rfl | hb
    ·exact lt_succ_self _
    ·have:b=p:=by simpa using hb
     subst this
     exact lt_succ_of_lt (lt_size ho)
   ·rw[hlen,l9 ns _ (le_refl _),take_length]
    exact fin s' (fun b o hb e=>mv.heap b o hb (get?_push_of_some _ e)) mv.gens mv.os t'
  ·obtain⟨its,rv,pl,hz⟩:=I.tuple hs
   have hlen:its.toArray.size=ns.length:=by
    have:=rv.length
    rw[length_map]at this
    simp [this]
   have ne:p≠s.heap.objs.size:=ne_of_lt pl.lt
   refine wpAny_pyIter_tuple (show s.heap.IsTuple p its.toArray from pl) ⟨s.heap.objs.size,_,_,_,_,_,_,(fun i=>ns.getD i 0),rfl,(Walks.tuple hh s.heap.objs.size p ne its.toArray).toS,⟨⟨_,get?_push_size _ rfl,rfl,rfl⟩,?_⟩,?_,fun i v hv=>CU rv i v hv,fun s' t' mv=>?_⟩
   ·obtain⟨o,ho,hc1,n,hd2⟩:=pl
    exact⟨o,get?_push_of_some _ ho,hc1,n,hd2⟩
   ·intro b hb
    rw[size_push]
    rcases mem_cons.mp hb with rfl | hb
    ·exact lt_succ_self _
    ·have:b=p:=by simpa using hb
     subst this
     exact lt_succ_of_lt pl.lt
   ·rw[hlen,l9 ns _ (le_refl _),take_length]
    exact fin s' (fun b o hb e=>mv.heap b o hb (get?_push_of_some _ e)) mv.gens mv.os t'
end
section
variable {prog:Program} {w:World} {A:Around} {E:Value->Shared->Prop} {s:Shared}
theorem Au {T nid:String} {Bn:Builtin} {as:List Value} {kw:List (Str × Value)} {S:PySem.Spec} {Q:Value->Shared->Prop} (tc:TypeCalled T nid "object.__init__")
  (hct:checkTypeCall T ⟨as,kw⟩=pure ()) (hcn:checkBuiltinCall nid ⟨.type T::as,kw⟩=pure ()) (ent:entryFor table nid=some Bn) (g:Meets (Bn ⟨.type T::as,kw⟩) S)
  (hi:∀ (obj:Value),argsOk "object.__init__" ⟨obj::as,kw⟩) (gi:∀ (obj:Value),Meets (Builtin.«object.__init__» ⟨obj::as,kw⟩) (fun _ R s=>s.TypeIs obj T/\R (.ok (.ret .none)) s))
  (h:S A.in1 (wants (fun obj s₁=>s₁.TypeIs obj T/\Q obj s₁) E) s):wpAny (model prog w) A (call (.type T) as kw) Q E s:=by
 obtain⟨c0,t0,e0⟩:=tc.mro
 have e1:=tc.made
 have e2:=tc.sub
 refine wpAny_call (codeAny_of_tree ?tree)
 case tree=>
  show wpAny _ _ (callAny (.type T) _) _ _ _
  refine wpAny_pure ⟨Code.quiet_builtin _ (by decide +kernel),codeAny_builtin PySem.F.entry_type_call ?inner⟩
  rw[Around.under_plain (weight_type_call_type T as kw) (units_type_call_type T as kw)]
  have e3:=tc.notType
  have e4:=tc.canCreate
  repeat (any_goals (first | assumption | wp_step))
  refine codeAny_mono (codeAny_call_builtin tc.plain ent (wpAny_of_eq hcn (g prog w A.in1 _ s h))) fun r1 s1 q1=>?_
  cases r1 with
  | error ex=>exact q1
  | ok f1=>
   cases f1 with
   | ret ob=>
    have q1':s1.TypeIs ob T/\Q ob s1:=q1
    obtain⟨ty,q2⟩:=q1'
    have e5:=tc.init.lookup
    have e6:=tc.init.bind ob
    repeat (any_goals (first | assumption | wp_step))
    refine codeAny_mono (codeAny_call_builtin tc.init.plain PySem.F.entry_object_init (tc.init.check _ _ _ _ _ _ _ _ ty (hi ob) (gi ob prog w A.in1 (wants (fun r s₂=>r = .none/\Q ob s₂) E) s1 ⟨ty,rfl,q2⟩))) fun r2 s2 q3=>?_
    cases r2 with
    | error ex=>exact q3
    | ok f2=>
     cases f2 with
     | ret rr=>
      obtain⟨rfl,q4⟩:=q3
      repeat (any_goals (first | assumption | wp_step))
     | _=>exact q3.elim
   | _=>exact q1.elim
theorem vP (a b:Value):checkTypeCall "enumerate" ⟨[a],[("start",b)]⟩=pure ():=by kernel_rfl
theorem y7 (a b:Value):checkBuiltinCall "enumerate.__new__" ⟨[.type "enumerate",a],[("start",b)]⟩=pure ():=by kernel_rfl
theorem AZ (l:Addr) (items:Array Value) (n:Nat) (dct:Option Addr) (sl:Array (Option Value)) (t:Tok) :
  Meets (Builtin.«enumerate.__new__» ⟨[.type "enumerate",.ref l],[("start",.int 1 t)]⟩) (fun _ R s=>s.heap.get? l=some { cls:=.type "tuple",dict:=dct,data:=.seq items n,slots:=sl }/\
   R (.ok (.ret (.ref (s.heap.push { cls:=.type "tuple_iterator",data:=.fields #[.ref l,.int 0 0] }).objs.size)))
    { s with heap:=(s.heap.push { cls:=.type "tuple_iterator",data:=.fields #[.ref l,.int 0 0] }).push { cls:=.type "enumerate",data:=.fields #[.none,.bool false,.ref s.heap.objs.size,rawInt 1,.none,.none] } }):=
 .of_wp fun prog w A R s h=>by
  obtain⟨hp,g,d,tk,os⟩:=s
  obtain⟨hl,h⟩:=h
  have z1:=sub_enumerate
  have z2:Heap.IsTuple (Shared.heap ⟨hp,g,d,tk,os⟩) l items:=⟨_,hl,rfl,n,rfl⟩
  wp_walk using AutoSeq1.wpAny_loadPart' hl
  refine wpAny_stack_any fun st=>wpAny_pure ?_
  split
  ·rename_i c _ _ _ _ _
   cases (c == Value.type "enumerate")
   ·wp_walk using AutoSeq1.wpAny_loadPart' hl,wpAny_pyIter_tuple z2
    exact⟨_,rfl,h⟩
   ·wp_walk using AutoSeq1.wpAny_loadPart' hl,wpAny_pyIter_tuple z2
    exact⟨_,rfl,h⟩
  ·wp_walk using AutoSeq1.wpAny_loadPart' hl,wpAny_pyIter_tuple z2
   exact⟨_,rfl,h⟩
theorem GU (obj a b:Value):argsOk "object.__init__" ⟨[obj,a],[("start",b)]⟩:=by
 unfold argsOk
 rw[signature?_of (id:="object.__init__") (n:=['_','_','t','i','n','i','_','_']) (o:=['t','c','e','j','b','o']) (by kernel_rfl) PySem.F.owner_object]
 kernel_rfl
theorem vO (obj a b:Value):Meets (Builtin.«object.__init__» ⟨[obj,a],[("start",b)]⟩) (fun _ R s=>s.TypeIs obj "enumerate"/\R (.ok (.ret .none)) s):=by
 refine Meets.of_wp fun prog w A R s hs=>?_
 obtain⟨ty,q⟩:=hs
 have e1:=PySem.F.called_enumerate.made
 have e2:=PySem.F.called_enumerate.init.lookup
 repeat (any_goals (first | assumption | wp_step))
 exact⟨_,rfl,q⟩
end
section
variable {prog:Program} {w:World} {A:Around} {E:Value->Shared->Prop} {s:Shared}
theorem GP {it t:Addr} {i:Nat} {items:Array Value} {x:Value} {Q:Value->Shared->Prop} (hit:s.heap.IsTupleIter it t i) (ht:s.heap.IsTuple t items) (hx:items[i]? = some x)
  (hQ:∀ h',h'.IsTupleIter it t (i+1)->Heap.SameBut it s.heap h'->Q x { s with heap:=h' }):wpAny (model prog w) A (Builtin.SmallTypes.nextOf (.ref it)) Q E s:=by
 obtain⟨oi,hoi,hci,hdi⟩:=id hit
 obtain⟨ot,hot,_,nt,hdt⟩:=ht
 unfold Builtin.SmallTypes.nextOf
 refine wpAny_bind (wpAny_callSpecial?_slot (name:=Str.ofString "__next__") hit.typeIs PySem.F.slot_tuple_iterator_next (wpAny_call_entry PySem.F.slot_tuple_iterator_next hit.typeIs PySem.F.entry_tuple_iterator_next ?nx (PySem.F.args_tuple_iterator_next_1 _)))
 case nx=>
  show wpAny _ _ (field (.ref it) 0 >>= _) _ _ s
  refine wpAny_bind (wpAny_field hoi hdi (x:=.ref t) rfl ?_)
  show wpAny _ _ (if (Value.ref t == Value.none)=true then _ else _) _ _ s
  rw[if_neg (show ¬ ((Value.ref t == Value.none)=true) from Bool.false_ne_true)]
  show wpAny _ _ (field (.ref it) 1 >>= _) _ _ s
  refine wpAny_bind (wpAny_field hoi hdi (x:=.int i 0) rfl ?_)
  show wpAny _ _ (seqItems? (.ref t) >>= _) _ _ s
  refine wpAny_bind (wpAny_seqItems hot hdt ?_)
  simp only[toNat_natCast,hx]
  refine wpAny_bind (wpAny_setField hoi hdi (by simp) (wpAny_pure ⟨x,rfl,wpAny_pure (hQ _ ⟨_,Heap.get?_update_self _ hoi (Obj.isFreed_of_fields (Obj.data_mapFields hdi _)),(Obj.cls_mapFields ..).trans hci,?_⟩ (Heap.SameBut.update ..))⟩))
  rw[Obj.data_mapFields hdi]
  simp [rawInt]
theorem FM {e it t:Addr} {i:Nat} {lo:Int} {items:Array Value} {x old:Value} {Q:Option Value->Shared->Prop}
  (he:IsEnum s.heap e it (lo+i) old) (hit:s.heap.IsTupleIter it t i) (ht:s.heap.IsTuple t items) (hx:items[i]? = some x) (hne:e≠it)
  (hQ:∀ h',IsEnumOut h' e it (lo+i+1) x s.heap.objs.size->h'.IsTupleIter it t (i+1)->
   h'.get? s.heap.objs.size=some { cls:=.type "tuple",data:=.seq #[.int (lo+i) s.toks,x] }->(∀ b o,b≠e->b≠it->s.heap.get? b=some o->h'.get? b=some o)->
   Q (some (.ref s.heap.objs.size)) { s with heap:=h',toks:=s.toks+1 }):wpAny (model prog w) A (pyNext (.ref e)) Q E s:=by
 have ty:s.TypeIs (.ref e) "enumerate":=⟨_,he,rfl⟩
 unfold pyNext
 refine wpAny_bind (wpAny_attempt (wpAny_callSpecial?_slot (name:=Str.ofString "__next__") ty PySem.F.slot_enumerate_next (wpAny_call_entry PySem.F.slot_enumerate_next ty PySem.F.entry_enumerate_next ?nx (PySem.F.args_enumerate_next_1 _))))
 case nx=>
  obtain⟨hp,g,d,tk,os⟩:=s
  show wpAny _ _ (field (.ref e) 2 >>= _) _ _ _
  refine wpAny_bind (wpAny_field he rfl (x:=.ref it) rfl ?_)
  refine wpAny_bind (GP hit ht hx fun k1 hit1 sb1=>?_)
  replace sb1:Heap.SameBut it hp k1:=sb1
  have g1:IsEnum k1 e it (lo+i) old:=(sb1.2 e hne).trans he
  show wpAny _ _ (field (.ref e) 3 >>= _) _ _ ⟨k1,g,d,tk,os⟩
  refine wpAny_bind (wpAny_field g1 rfl (x:=rawInt (lo+i)) rfl ?_)
  show wpAny _ _ (field (.ref e) 4 >>= _) _ _ ⟨k1,g,d,tk,os⟩
  refine wpAny_bind (wpAny_field g1 rfl (x:=.none) rfl ?_)
  show wpAny _ _ (mkInt (lo+i) >>= _) _ _ ⟨k1,g,d,tk,os⟩
  refine wpAny_bind (wpAny_mkInt ?_)
  show wpAny _ _ (setField (.ref e) 3 (rawInt (lo+i+1)) >>= _) _ _ ⟨k1,g,d,tk+1,os⟩
  refine wpAny_bind (wpAny_setField_rec g1 (by simp) fun k2 g2 sb2=>?_)
  replace sb2:Heap.SameBut e k1 k2:=sb2
  replace g2:IsEnum k2 e it (lo+i+1) old:=g2
  show wpAny _ _ (setField (.ref e) 4 .none >>= _) _ _ ⟨k2,g,d,tk+1,os⟩
  refine wpAny_bind (wpAny_setField_rec g2 (by simp) fun k3 g3 sb3=>?_)
  replace sb3:Heap.SameBut e k2 k3:=sb3
  replace g3:IsEnum k3 e it (lo+i+1) old:=g3
  show wpAny _ _ (newTuple [.int (lo+i) tk,x] >>= _) _ _ ⟨k3,g,d,tk+1,os⟩
  refine wpAny_bind (wpAny_newTuple ?_)
  have g4:IsEnum (k3.push { cls:=.type "tuple",data:=.seq #[.int (lo+i) tk,x] }) e it (lo+i+1) old:=get?_push_of_some _ g3
  generalize hk4:k3.push { cls:=.type "tuple",data:=.seq #[.int (lo+i) tk,x] }=k4 at g4
  have sz:k3.objs.size=hp.objs.size:=by rw[sb3.1,sb2.1,sb1.1]
  have el:e<hp.objs.size:=lt_size he
  have t4:k4.get? hp.objs.size=some { cls:=.type "tuple",data:=.seq #[.int (lo+i) tk,x] }:=by
   rw[<- hk4,<- sz]
   exact get?_push_size _ rfl
  have kp4:∀ b o,b≠e->b≠it->hp.get? b=some o->k4.get? b=some o:=fun b o n1 n2 q=>by
   rw[<- hk4]
   exact get?_push_of_some _ (sb3.extBut b o n1 (sb2.extBut b o n1 (sb1.extBut b o n2 q)))
  have hit4:k4.IsTupleIter it t (i+1):=by
   obtain⟨o,ho,r⟩:=hit1
   rw[<- hk4]
   exact⟨o,get?_push_of_some _ (sb3.extBut it o (Ne.symm hne) (sb2.extBut it o (Ne.symm hne) ho)),r⟩
  show wpAny _ _ (Builtin.SmallTypes.ownedTupleIsFree (.ref e) >>= _) _ _ ⟨k4,g,d,tk+1,os⟩
  rw[sz]
  clear hk4 g3 sb3 g2 sb2 g1 sb1 hit1 sz k3 k2 k1
  refine wpAny_bind ?_
  unfold Builtin.SmallTypes.ownedTupleIsFree
  refine wpAny_bind (wpAny_field g4 rfl (x:=.none) rfl (wpAny_pure ?_))
  simp only[if_true]
  refine wpAny_bind (wpAny_rule ?_)
  refine wpAny_bind (wpAny_field g4 rfl (x:=old) rfl ?_)
  refine wpAny_bind (wpAny_setField_rec g4 (by simp) fun k5 g5 sb5=>?_)
  replace sb5:Heap.SameBut e k4 k5:=sb5
  replace g5:IsEnum k5 e it (lo+i+1) x:=g5
  show wpAny _ _ (Builtin.SmallTypes.ownedTupleHandOut (.ref e) (.ref hp.objs.size) >>= _) _ _ ⟨k5,g,d,tk+1,os⟩
  refine wpAny_bind ?_
  unfold Builtin.SmallTypes.ownedTupleHandOut
  refine wpAny_bind (wpAny_setField_rec g5 (by simp) fun k6 g6 sb6=>?_)
  replace sb6:Heap.SameBut e k5 k6:=sb6
  replace g6:IsEnumOut k6 e it (lo+i+1) x hp.objs.size:=g6
  refine wpAny_setField_rec g6 (by simp) fun k7 g7 sb7=>?_
  replace sb7:Heap.SameBut e k6 k7:=sb7
  replace g7:IsEnumOut k7 e it (lo+i+1) x hp.objs.size:=g7
  refine wpAny_bind (wpAny_letGo (wpAny_pure ⟨_,rfl,wpAny_pure (hQ k7 g7 ?_ ?_ ?_)⟩))
  ·obtain⟨o,ho,r⟩:=hit4
   exact⟨o,sb7.extBut it o (Ne.symm hne) (sb6.extBut it o (Ne.symm hne) (sb5.extBut it o (Ne.symm hne) ho)),r⟩
  ·exact sb7.extBut _ _ (ne_of_gt el) (sb6.extBut _ _ (ne_of_gt el) (sb5.extBut _ _ (ne_of_gt el) t4))
  ·exact fun b o n1 n2 q=>sb7.extBut b o n1 (sb6.extBut b o n1 (sb5.extBut b o n1 (kp4 b o n1 n2 q)))
theorem GY {e it t:Addr} {i:Nat} {lo:Int} {items:Array Value} {old:Value} {Q:Option Value->Shared->Prop} (hh:A.handled=none)
  (he:IsEnum s.heap e it lo old) (hit:s.heap.IsTupleIter it t i) (ht:s.heap.IsTuple t items) (hx:items[i]? = none)
  (hQ:∀ h',Heap.ExtBut it s.heap h'->Q none { s with heap:=h' }):wpAny (model prog w) A (pyNext (.ref e)) Q E s:=by
 have ty:s.TypeIs (.ref e) "enumerate":=⟨_,he,rfl⟩
 obtain⟨oi,hoi,hci,hdi⟩:=id hit
 obtain⟨ot,hot,_,nt,hdt⟩:=ht
 unfold pyNext
 refine wpAny_bind (wpAny_attempt (wpAny_callSpecial?_slot (name:=Str.ofString "__next__") ty PySem.F.slot_enumerate_next (wpAny_call_entry PySem.F.slot_enumerate_next ty PySem.F.entry_enumerate_next ?nx (PySem.F.args_enumerate_next_1 _))))
 case nx=>
  show wpAny _ _ (field (.ref e) 2 >>= _) _ _ _
  refine wpAny_bind (wpAny_field he rfl (x:=.ref it) rfl ?_)
  refine wpAny_bind ?_
  unfold Builtin.SmallTypes.nextOf
  refine wpAny_bind (wpAny_callSpecial?_slot (name:=Str.ofString "__next__") hit.typeIs PySem.F.slot_tuple_iterator_next (wpAny_call_entry PySem.F.slot_tuple_iterator_next hit.typeIs PySem.F.entry_tuple_iterator_next ?nx2 (PySem.F.args_tuple_iterator_next_1 _)))
  case nx2=>
   show wpAny _ _ (field (.ref it) 0 >>= _) _ _ s
   refine wpAny_bind (wpAny_field hoi hdi (x:=.ref t) rfl ?_)
   show wpAny _ _ (if (Value.ref t == Value.none)=true then _ else _) _ _ s
   rw[if_neg (show ¬ ((Value.ref t == Value.none)=true) from Bool.false_ne_true)]
   show wpAny _ _ (field (.ref it) 1 >>= _) _ _ s
   refine wpAny_bind (wpAny_field hoi hdi (x:=.int i 0) rfl ?_)
   show wpAny _ _ (seqItems? (.ref t) >>= _) _ _ s
   refine wpAny_bind (wpAny_seqItems hot hdt ?_)
   simp only[toNat_natCast,hx]
   refine wpAny_bind (wpAny_rule (wpAny_bind (wpAny_setField hoi hdi (by simp) ?_)))
   show wpAny _ _ (newExc (.type "StopIteration") [] >>= _) _ _ _
   refine wpAny_bind ?_
   simp only[newExc,newTuple]
   refine wpAny_bind (wpAny_newObj_type ?_ (by size_fits))
   refine wpAny_bind (m:=firstArgMember _ _) (wpAny_of_eq (a:=Value.none) (by first | rfl | (simp only[firstArgMember]; rfl)) ?_)
   refine wpAny_newObj_type ?_ (by size_fits)
   simp only[raiseNew]
   refine wpAny_bind (wpAny_handled ?_)
   first | rw[show A.in1.handled=none from hh] | rw[show A.in1.in1.handled=none from hh] | rw[hh]
   refine wpAny_bind (wpAny_pure (wpAny_throw ?_))
   refine wpAny_bind (wpAny_isInstance (T:="StopIteration") (b:=true) ⟨_,get?_push_size _ rfl,rfl⟩ isSubtype_stop ?_)
   exact wpAny_pure (hQ _ (((Heap.SameBut.update ..).extBut.push _).push _))
end
noncomputable def Ite (K:PySem.W.Frag) (lo:Int) (a:Addr):It:=
 ⟨fun i H=>∃ xs x,SqT K H a xs/\xs[i]? = some x,fun i H x H'=>∃ p v,x = .ref p/\H p=none/\H'=upd H p (.tup [.int (lo+i),v])/\∀ xs,SqT K H a xs->xs[i]? = some v,fun i H=>∃ xs,SqT K H a xs/\xs.length<=i⟩
section
variable {X:Cx} {pins:List (Addr × Obj)} {σ : St} {H:Hp} {s:Shared}
theorem Inv.turned2 {t':Nat} {e it p:Addr} {xs:List V} {h':Heap} (I:Inv X pins σ H s) (fe:rO X pins H e) (fi:rO X pins H it) (hp:s.heap.objs.size<=p) (k:∀ b o,b≠e->b≠it->s.heap.get? b=some o->h'.get? b=some o)
  (th:(∃ o,h'.get? e=some o)/\∃ o,h'.get? it=some o) (new:dC X.prog X.w (upd H p (.tup xs)) h' p (.tup xs)):Inv X pins σ (upd H p (.tup xs)) { s with heap:=h',toks:=t' }:=by
 have hn:=I.hok.fresh hp
 have np:∀ b o,s.heap.get? b=some o->b≠p:=fun b o q=>ne_of_lt (lt_of_lt_of_le (lt_size q) hp)
 refine I.call' (s':={ s with heap:=h',toks:=t' }) (ch:=[e,it]) rfl ⟨fun b o q n _ hc=>?_,fun b o q n _ hc=>⟨o.slots,?_⟩,fun b o q n _=>?_,fun b o q hc=>⟨o,?_⟩,fun b ys q=>?_,fun b u ys q=>?_,fun b ps q=>⟨#[],?_⟩⟩ ?_ I.bare fun b hb=>?_
 ·exact k b o (fun z=>hc (by simp [z])) (fun z=>hc (by simp [z])) q
 ·exact k b o (fun z=>hc (by simp [z])) (fun z=>hc (by simp [z])) q
 ·rw[aF (np b o q)]
  exact n
 ·exact k b o (fun z=>hc (by simp [z])) (fun z=>hc (by simp [z])) q
 ·rw[aF (bC q hn)]
  exact q
 ·rw[aF (bC q hn)]
  exact q
 ·rw[aF (bC q hn),q]
  simp
 ·intro b u q
  by_cases hb:b=p
  ·subst hb
   rw[aC]at q
   cases q
   exact new
  ·rw[aF hb]at q
   refine(I.hok b u q).stay (fun c v hc r=>k c v ?_ ?_ r) (fun c r=>by rw[aF (bC r hn)]; exact r) fun c ys r=>by rw[aF (bC r hn)]; exact r
   ·rintro rfl
    rcases hc with hc | hc
    ·rw[<- hc,fe.1]at q; cases q
    ·rw[fe.1]at hc; cases hc
   ·rintro rfl
    rcases hc with hc | hc
    ·rw[<- hc,fi.1]at q; cases q
    ·rw[fi.1]at hc; cases hc
 ·rcases mem_cons.mp hb with rfl | hb
  ·exact⟨fe.2.2.2.1,fe.2.1,fe.2.2.2.2.1,fe.2.2.2.2.2⟩
  ·have:b=it:=by simpa using hb
   subst this
   exact⟨fi.2.2.2.1,fi.2.1,fi.2.2.2.2.1,fi.2.2.2.2.2⟩
theorem Cs {P:Program} {w:World} {K:PySem.W.Frag} {elts:List Expr} {x1:Nat} {tp:Pos} (lo:Int) (a e it:Addr) (hne:e≠it) :
  Turn P w K (.Tuple elts x1 tp) (Ite K lo a) [e,it] e (fun i h=>(∃ old,IsEnum h e it (lo+(i:Nat)) old)/\h.IsTupleIter it a i) where
 mem:=by simp
 obj:=fun i h st b hb=>by
  obtain⟨⟨old,he⟩,o,ho,hc,hd⟩:=st
  rcases mem_cons.mp hb with rfl | hb
  ·exact⟨_,he,fun v z=>by cases (show Data.fields _=Data.cell v from z)⟩
  ·have:b=it:=by simpa using hb
   subst this
   exact⟨o,ho,fun v z=>by rw[hd]at z; cases z⟩
 keep:=fun i h h' st k=>by
  obtain⟨⟨old,he⟩,o,ho,r⟩:=st
  exact⟨⟨old,k e (by simp) _ he⟩,o,k it (by simp) _ ho,r⟩
 item:=by
  intro X hP hw hK hc i pins s σ H E I hf st hg
  subst hP hw hK
  obtain⟨⟨old,he⟩,hit⟩:=st
  obtain⟨xs,x,hq,hx⟩:=hg
  obtain⟨its,rv,p,hz⟩:=I.tuple hq
  obtain⟨u,hu,ru⟩:=rv.get hx
  refine FM he hit (show s.heap.IsTuple a its.toArray from p) (x:=u) (by simpa using hu) hne fun h' ho hit' ht kp=>⟨.ref s.heap.objs.size,rfl,?_⟩
  refine wpAny_letOwnedTupleGo_enum ho fun h2 he2 sb2=>?_
  have el:e<s.heap.objs.size:=lt_size he
  have il:it<s.heap.objs.size:=by
   obtain⟨o,ho',_⟩:=hit
   exact lt_size ho'
  have t2:h2.get? s.heap.objs.size=some { cls:=.type "tuple",data:=.seq #[.int (lo+i) s.toks,u] }:=(sb2.2 _ (ne_of_gt el)).trans ht
  have hit2:h2.IsTupleIter it a (i+1):=by
   obtain⟨o,ho',r⟩:=hit'
   exact⟨o,(sb2.2 it (Ne.symm hne)).trans ho',r⟩
  have eqi:lo+(i:Int)+1=lo+((i+1:Nat):Int):=by omega
  refine⟨.ref s.heap.objs.size,upd H s.heap.objs.size (.tup [.int (lo+i),x]),?_,rfl,⟨_,x,rfl,I.hok.fresh (le_refl _),rfl,fun ys hy=>by rw[I.tuple_inj hy hq]; exact hx⟩,⟨⟨u,by rw[<- eqi]; exact he2⟩,hit2⟩,fun b hb=>?_⟩
  ·refine I.turned2 (t':=s.toks+1) (hf e (by simp)) (hf it (by simp)) (le_refl _) (fun b o n1 n2 q=>(sb2.2 b n1).trans (kp b o n1 n2 q)) ⟨⟨_,he2⟩,let ⟨o,h,_⟩:=hit2; ⟨o,h⟩⟩ ?_
   refine⟨(by show 2<=sizeLine; decide),[.int (lo+i) s.toks,u],.cons ⟨_,rfl⟩ (.cons ru .nil),⟨_,t2,rfl,_,rfl⟩⟩
  ·rw[aF ?_]
   ·exact(hf b hb).1
   ·rcases mem_cons.mp hb with rfl | hb
    ·exact ne_of_lt el
    ·have:b=it:=by simpa using hb
     subst this
     exact ne_of_lt il
 done:=by
  intro X hP hw hK hc i pins s σ H E I hf st hg
  subst hP hw hK
  obtain⟨⟨old,he⟩,hit⟩:=st
  obtain⟨xs,hq,hx⟩:=hg
  obtain⟨its,rv,p,hz⟩:=I.tuple hq
  obtain⟨f0,f1,f2,f3,f4,f5⟩:=hf it (by simp)
  have hl:=rv.length
  exact GY (I.ok.hd hc) he hit (show s.heap.IsTuple a its.toArray from p) (by simp; omega) fun h' eb=>⟨rfl,I.turned (t':=s.toks) (fun b o hb e=>eb b o hb e) f0 f1 f3 f4 f5⟩
 self:=fun A i s Q E st h=>by
  obtain⟨⟨old,he⟩,_⟩:=st
  exact wpAny_pyIter_enum he h
def Gy (K:PySem.W.Frag) (lo:Int) (ta:TE):TI:=fun σ H R=>ta σ H fun x H1=>∃ a xs,x = .ref a/\SqT K H1 a xs/\R (Ite K lo a) H1
theorem FL {tg:Expr} {elts:List Expr} {x1:Nat} {tp:Pos} {R:It->Hp->Prop} {lo:Int} {a:Addr} {E:Value->Shared->Prop} {tk:Nat} (I:Inv X pins σ H s) (q:R (Ite X.K lo a) H) :
  wpAny (model X.prog X.w) X.A (pyIter (.ref (s.heap.objs.size+1))) (PIE X pins σ (.Tuple elts x1 tp) R) E
   { s with heap:=(s.heap.push { cls:=.type "tuple_iterator",data:=.fields #[.ref a,.int 0 0] }).push { cls:=.type "enumerate",data:=.fields #[.none,.bool false,.ref s.heap.objs.size,rawInt lo,.none,.none] },toks:=tk }:=by
 have z:(s.heap.push { cls:=.type "tuple_iterator",data:=.fields #[.ref a,.int 0 0] }).objs.size=s.heap.objs.size+1:=size_push _ _
 have he:IsEnum ((s.heap.push { cls:=.type "tuple_iterator",data:=.fields #[.ref a,.int 0 0] }).push { cls:=.type "enumerate",data:=.fields #[.none,.bool false,.ref s.heap.objs.size,rawInt lo,.none,.none] }) (s.heap.objs.size+1) s.heap.objs.size lo .none:=by
  have q:=get?_push_size (s.heap.push { cls:=.type "tuple_iterator",data:=.fields #[.ref a,.int 0 0] }) (o:={ cls:=.type "enumerate",data:=.fields #[.none,.bool false,.ref s.heap.objs.size,rawInt lo,.none,.none] }) rfl
  rw[z]at q
  exact q
 have I1:Inv X pins σ H { s with heap:=(s.heap.push { cls:=.type "tuple_iterator",data:=.fields #[.ref a,.int 0 0] }).push { cls:=.type "enumerate",data:=.fields #[.none,.bool false,.ref s.heap.objs.size,rawInt lo,.none,.none] },toks:=tk }:=
  I.kept fun b o e=>get?_push_of_some _ (get?_push_of_some _ e)
 refine wpAny_pyIter_enum he ⟨s.heap.objs.size+1,[s.heap.objs.size+1,s.heap.objs.size],_,Ite X.K lo a,H,rfl,I1,Cs lo a _ _ (ne_of_gt (lt_succ_self _)),⟨⟨.none,by simpa using he⟩,⟨_,get?_push_of_some _ (get?_push_size _ rfl),rfl,rfl⟩⟩,fun b hb=>?_,q⟩
 rcases mem_cons.mp hb with rfl | hb
 ·exact I.fpOk (le_succ _) (I.hok.fresh (le_succ _))
 ·have:b=s.heap.objs.size:=by simpa using hb
  subst this
  exact I.fpOk (le_refl _) (I.hok.fresh (le_refl _))
theorem FU {M:Model} {A:Around} {E:Value->Shared->Prop} {s:Shared} {pos:Pos} {T:String} {x:Sem Value} {rest:List (Bool × Sem Value)} {kws:List (Option Str × Sem Value)} {Q:Value->Shared->Prop} (h1:rest.any (·.1)=false) (h2:kws.any (·.1.isNone)=false) (h3:kws.all (·.1.isSome)=true)
  (h:wpAny M A (spliced ((false,x)::rest)) (fun vs s₁=>wpAny M A (evalAll (kws.map (·.2))) (fun ws s₂=>wpAny M A (call (.type T) vs ((kws.filterMap (·.1)).zip ws)) Q E s₂) E s₁) E s):wpAny M A (callWith pos (.type T) [] ((false,x)::rest) kws) Q E s:=by
 unfold callWith
 refine wpAny_bind (wpAny_holding (evalArgs_kwB h3 (wpAny_mono h (fun vs s1 q1=>wpAny_mono q1 (fun ws s2 q2=>wpAny_bind (wpAny_standAt ?_)) fun _ _ y=>y) fun _ _ y=>y)))
 have h4:(((false,x)::rest).any (·.1))=false:=by
  rw[any_cons,h1]
  rfl
 simp only[h4,h2,Bool.or_false]
 refine wpAny_bind (wpAny_pure ?_)
 exact wpAny_bind (wpAny_mono q2 (fun r s3 q3=>wpAny_bind (wpAny_holding (wpAny_point (wpAny_pure q3)))) fun _ _ y=>y)
theorem Eb {ex:Expr} {elts:List Expr} {x1 k:Nat} {tp p pos cp kp:Pos} {ta:TE} (hm:X.mg "enumerate" = none) (ha:PE X ex ta) (hg:Gl X "enumerate":=by rfl) (hs:starEach [ex] X.env=[(false,eval ex X.env)]:=by rfl) :
  PI X (.Tuple elts x1 tp) (.Call (.Name "enumerate" p) [ex] [⟨some "start",.Constant (.int 1) k cp,kp⟩] pos) (Gy X.K 1 ta):=by
 intro pins s σ H R I h
 refine wpAny_Call_Name_kw (nV I hg hm boot_enumerate ?_)
 rw[hs]
 refine FU (x:=eval ex X.env) (rest:=[]) rfl rfl rfl ?_
 have ha':=gP ha aB hs pos pins s σ H (fun vs H1=>∃ a xs,vs=[V.ref a]/\SqT X.K H1 a xs/\R (Ite X.K 1 a) H1) I (by
  have e:(fun(x:V) (H1:Hp)=>eQ σ H1 fun xs H2=>∃ a ys,x::xs=[V.ref a]/\SqT X.K H2 a ys/\R (Ite X.K 1 a) H2)=fun x H1=>∃ a xs,x = .ref a/\SqT X.K H1 a xs/\R (Ite X.K 1 a) H1:=by
   funext x H1
   simp only[eQ,List.cons.injEq,and_true]
  show ta σ H (fun x H1=>eQ σ H1 fun xs H2=>_)
  rw[e]
  exact h)
 rw[hs]at ha'
 refine thn ha' fun us s1 zQq=>?_
 obtain⟨vs,H1,I1,r1,q1⟩:=zQq
 refine kws_cons (wpAny_Constant_int ?_)
 refine kws_nil ?_
 obtain⟨a,xs,e,hq,q⟩:=q1
 subst e
 cases r1 with
 | cons r rr=>
  cases rr
  cases (show _=Value.ref a from r)
  have I2:=I1.tok (s1.toks+1)
  obtain⟨its,rv,⟨⟨c,dd,dt,sl⟩,ho,hc1,n,hd1⟩,hz⟩:=I2.tuple hq
  dsimp only at hc1 hd1
  subst hc1 hd1
  refine Au (kw:=[("start",_)]) PySem.F.called_enumerate (vP _ _) (y7 _ _) PySem.F.entry_enumerate_new (AZ a _ n dd sl _) (fun obj=>GU obj _ _) (fun obj=>vO obj _ _) ⟨ho,⟨_,get?_push_size _ rfl,rfl⟩,?_⟩
  rw[size_push]
  exact FL (tg:=ex) (tk:=s1.toks+1) I2 q
end
section
variable {X:Cx}
def rAll (K:PySem.W.Frag):List V->Hp->VK->Prop:=fun xs H Q=>∃ (p:Addr) (bs:List Bool),xs=[.ref p]/\SqL K H p (bs.map V.bl)/\Q (.bl (bs.all id)) H
theorem FY {bs:List Bool}:∀ {us:List Value},bQ (bs.map V.bl) us->∀ i v,us.toArray[i]? = some v->v=Value.bool (bs.getD i false):=by
 intro us r i v hv
 have hv:us[i]? = some v:=by simpa using hv
 have hl:i<us.length:=(List.getElem?_eq_some_iff.mp hv).1
 have hn:i<bs.length:=by
  have:=r.length
  rw[length_map]at this
  omega
 obtain⟨u,hu,ru⟩:=r.get (i:=i) (x:=V.bl bs[i]) (by simp [hn])
 rw[hv]at hu
 cases hu
 have e:v=Value.bool bs[i]:=ru
 rw[e]
 simp [List.getD,hn]
theorem Ff (bs:List Bool):((List.range bs.length).all fun i=>bs.getD i false)=bs.all id:=by
 rw[Bool.eq_iff_iff,all_eq_true,all_eq_true]
 constructor
 ·intro h b hb
  obtain⟨i,hi,e⟩:=List.mem_iff_getElem.mp hb
  have:=h i (mem_range.mpr hi)
  simp [List.getD,hi,e]at this
  simpa using this
 ·intro h i hi
  have hi:=mem_range.mp hi
  have:=h bs[i] (List.getElem_mem hi)
  simpa [List.getD,hi] using this
theorem Dj (hc:X.calm=true):eY X (.builtin "all") (rAll X.K):=by
 intro pins s σ H xs us Q I r h
 obtain⟨p,bs,rfl,hs,q⟩:=h
 cases r with
 | cons r1 r2=>
  cases r2
  cases (show _=Value.ref p from r1)
  have hh:X.A.in1.handled=none:=I.ok.hd hc
  refine call_all_walk ?_
  obtain⟨its,rv,pl,hz⟩:=I.list hs
  have hlen:its.toArray.size=bs.length:=by
   have:=rv.length
   rw[length_map]at this
   simp [this]
  have ne:p≠s.heap.objs.size:=by
   obtain⟨o,n,ho,_⟩:=pl
   exact ne_of_lt (lt_size ho)
  refine wpAny_pyIter_list pl.isList ⟨s.heap.objs.size,_,_,_,_,_,(fun i=>bs.getD i false),rfl,Walks.list hh s.heap.objs.size p ne its.toArray,⟨⟨_,get?_push_size _ rfl,rfl,rfl⟩,?_⟩,fun i v s' Q' E' hv hq=>?_,fun h' tk hk=>?_⟩
  ·obtain⟨o,n,ho,hc1,hd1,hd2⟩:=pl
   exact⟨o,get?_push_of_some _ ho,hc1,n,hd2⟩
  ·rw[FY rv i v hv]
   exact wpAny_truthy_bool hq
  ·rw[hlen,Ff]
   refine⟨.bl _,H,I.kept (t':=tk) fun b u e=>hk b u (by simpa using ne_of_lt (lt_size e)) (get?_push_of_some _ e),rfl,q⟩
theorem HC {M:Model} {A:Around} {E:Value->Shared->Prop} {s:Shared} {β : Type} {hi:Nat} (f:Nat->β->Sem (ForInStep β)) (I:List Nat->β->Shared->Prop) (Q:β->Shared->Prop)
  (turn:∀ x rest b s,I (x::rest) b s->wpAny M A (f x b) (fun r s'=>match r with | .yield b'=>I rest b' s' | .done b'=>Q b' s') E s)
  (fin:∀ b s,I [] b s->Q b s) (b:β) (h:I (List.range' 0 hi) b s):wpAny M A (forIn [0:hi] b f) Q E s:=by
 rw[Std.Legacy.Range.forIn_eq_forIn_range']
 refine wpAny_forIn_list f I Q turn fin _ b ?_
 simpa [Std.Legacy.Range.size] using h
theorem sD (l:Addr) (items:Array Value) (n:Nat) (dd:Option Addr) (sl:Array (Option Value)) (x:Value) (e:Value->Bool) (j:Nat) (hj:j<items.size) (hy:e items[j]=true) (hn:∀ i (h:i<j),e items[i]=false) :
  Meets (Builtin.«tuple.index» ⟨[.ref l,x],[]⟩) (fun A R s=>s.heap.get? l=some { cls:=.type "tuple",dict:=dd,data:=.seq items n,slots:=sl }/\(∀ y,y∈items->SeqAt.EqAt A.in1 s y x (e y))/\R (.ok (.ret (.int j s.toks))) { s with toks:=s.toks+1 }):=
 .of_wp fun prog w A R s h=>by
  obtain⟨hp,g,d,tk,os⟩:=s
  obtain⟨hl,he,h⟩:=h
  wp_walk using AutoSeq1.wpAny_loadPart' hl,HC _ (fun rest b s'=>b.1=none/\s'=⟨hp,g,d,tk,os⟩/\∃ i,i<=j/\rest=List.range' i (items.size - i)) _
  case turn=>
   rintro y rest b s' ⟨hb,rfl,i,hi,hr⟩
   have hlt:i<items.size:=by omega
   have e1:items.size - i=(items.size - (i+1))+1:=by omega
   rw[e1,List.range'_succ]at hr
   obtain⟨rfl,rfl⟩:=List.cons.inj hr
   have hg:items[y]? = some items[y]:=by simp [hlt]
   rw[hg]
   dsimp only
   refine wpAny_bind (he items[y] (Array.getElem_mem hlt) prog w _ _ ?_)
   by_cases hyj:y=j
   ·subst hyj
    rw[hy]
    wp_walk
    exact⟨_,rfl,h⟩
   ·rw[hn y (by omega)]
    wp_walk
    exact⟨rfl,rfl,y+1,by omega,rfl⟩
  case fin=>
   rintro ⟨b1,b2⟩ s' ⟨hb,rfl,i,hi,hr⟩
   have:(List.range' i (items.size - i)).length=0:=by rw[<- hr]; rfl
   rw[List.length_range']at this
   omega
  case h=>
   refine⟨rfl,rfl,0,zero_le _,?_⟩
   simp
def ET (K:PySem.W.Frag):V->List V->Hp->VK->Prop:=fun x vs H Q=>∃ (a:Addr) (ks:List Str) (k:Str) (j:Nat),x = .ref a/\vs=[.str k]/\SqT K H a (ks.map V.str)/\ks[j]? = some k/\(∀ i,i<j->ks[i]? ≠ some k)/\Q (.int j) H
theorem Ew:MtR X "tuple.index" (ET X.K):=by
 intro pins s σ H x vs v us Q I rx rv h
 obtain⟨a,ks,k,j,rfl,rfl,hs,hj,hn,q⟩:=h
 cases (show v=Value.ref a from rx)
 cases rv with
 | cons r1 r2=>
  cases r2
  obtain⟨t,e⟩:=r1
  subst e
  obtain⟨its,rv,⟨⟨c,dd,dt,sl⟩,ho,hc1,n,hd1⟩,hz⟩:=I.tuple hs
  dsimp only at hc1 hd1
  subst hc1 hd1
  have hlen:its.length=ks.length:=by
   have:=rv.length
   rw[length_map]at this
   exact this.symm
  have hjl:j<ks.length:=(List.getElem?_eq_some_iff.mp hj).1
  have at_:∀ i (h:i<ks.length),∃ t,its[i]? = some (Value.str ks[i] t):=fun i h=>by
   obtain⟨u,hu,ru⟩:=rv.get (i:=i) (x:=V.str ks[i]) (by simp [h])
   obtain⟨t,e⟩:=ru
   exact⟨t,by rw[hu,e]⟩
  refine call_meets PySem.F.slot_tuple_index ⟨_,ho,rfl⟩ PySem.F.entry_tuple_index (PySem.F.args_tuple_index_2 _ _)
   (sD a its.toArray n dd sl (.str k t) (fun v=>match v with | .str y _=>y == k | _=>false) j (by simpa [hlen] using hjl) ?_ ?_) ⟨ho,fun y hy=>?_,?_⟩
  ·obtain⟨t',e⟩:=at_ j hjl
   have e2:its.toArray[j]'(by simpa [hlen] using hjl)=Value.str ks[j] t':=by
    have:=List.getElem?_eq_some_iff.mp e
    simpa using this.2
   rw[e2]
   have:ks[j]=k:=by
    have:=List.getElem?_eq_some_iff.mp hj
    exact this.2
   simp [this]
  ·intro i hi
   have hil:i<ks.length:=by omega
   obtain⟨t',e⟩:=at_ i hil
   have e2:its.toArray[i]'(by simp [hlen]; omega)=Value.str ks[i] t':=by
    have:=List.getElem?_eq_some_iff.mp e
    simpa using this.2
   rw[e2]
   have ne:ks[i]≠k:=fun z=>hn i hi (by rw[getElem?_eq_getElem hil,z])
   simpa using ne
  ·obtain⟨i,hi,e⟩:=List.mem_iff_getElem.mp (show y∈its by simpa using hy)
   obtain⟨t',e'⟩:=at_ i (by omega)
   rw[getElem?_eq_getElem hi,e]at e'
   cases e'
   exact SeqAt.EqAt.str_str _ _ _ _
  ·exact⟨.int j,H,I.tok _,⟨_,rfl⟩,q⟩
end
theorem lD:fillsNumberSlot (.type "tuple") "mul" = pure false:=
 PySem.fillsNumberSlot_seq (id:="tuple.__mul__") (r:=some (.builtin "tuple.__rmul__")) PySem.F.slot_tuple_mul.lookup (by decide +kernel) PySem.F.slot_tuple_rmul.lookup (by decide +kernel)
theorem qE:seqRepeat? (.type "tuple")=pure (some (.builtin "tuple.__mul__")):=by
 unfold seqRepeat?
 rw[PySem.seqSlot_of (T:="tuple") (name:="__mul__") (id:="tuple.__mul__") PySem.F.slot_tuple_mul.lookup (by decide +kernel),PySem.seqSlot_of (T:="tuple") (name:="__rmul__") (id:="tuple.__rmul__") PySem.F.slot_tuple_rmul.lookup (by decide +kernel)]
 rfl
theorem yD (a:Int) (t:Tok) (l:Addr) (items:Array Value) (n:Nat) (dd:Option Addr) (sl:Array (Option Value)) :
  Meets (Builtin.«int.__rmul__» ⟨[.int a t,.ref l],[]⟩) (fun _ R s=>s.heap.get? l=some { cls:=.type "tuple",dict:=dd,data:=.seq items n,slots:=sl }/\R (.ok (.ret Value.notImplemented)) s):=
 .of_wp fun prog w A R s h=>by
  obtain⟨hp,g,d,tk,os⟩:=s
  obtain⟨hl,h⟩:=h
  wp_walk
  exact⟨_,rfl,h⟩
theorem HU (l:Addr) (items:Array Value) (n:Nat) (dd:Option Addr) (sl:Array (Option Value)) (k:Int) (t:Tok) (h1:¬ (decide (k < -(2 ^ 63)) || decide (k ≥ 2 ^ 63))=true) (h2:¬ (items.isEmpty || k == 1)=true) (h3:¬ (decide (k<=0) || items.isEmpty)=true)
  (h4:¬ (items.size:Int) * k > (2 ^ 63 - 1) / 8) (h5:¬ Builtin.Tuple.tupleTooMany ((items.size:Int) * k)=true) (h6:¬ ((List.replicate k.toNat items).foldl (· ++ ·) #[]).size > sizeLine) :
  Meets (Builtin.«tuple.__mul__» ⟨[.ref l,.int k t],[]⟩) (fun _ R s=>s.heap.get? l=some { cls:=.type "tuple",dict:=dd,data:=.seq items n,slots:=sl }/\
   R (.ok (.ret (.ref s.heap.objs.size))) { s with heap:=s.heap.push { cls:=.type "tuple",data:=.seq ((List.replicate k.toNat items).foldl (· ++ ·) #[]) } }):=
 .of_wp fun prog w A R s h=>by
  obtain⟨hp,g,d,tk,os⟩:=s
  obtain⟨hl,h⟩:=h
  have f1:=AutoSeq1.idx_int
  wp_walk using AutoSeq1.wpAny_loadPart' hl
  rw[if_neg h1]
  wp_walk using AutoSeq1.wpAny_loadPart' hl
  rw[if_neg h4]
  dsimp only
  rw[if_neg h5]
  wp_walk using AutoSeq1.wpAny_loadPart' hl
  exact⟨_,rfl,h⟩
section
variable {X:Cx}
def Gs (K:PySem.W.Frag):R2:=fun x y H Q=>∃ (a:Addr) (k:Int) (xs:List V),x = .ref a/\y = .int k/\SqT K H a xs/\xs≠[]/\2<=k/\k<=1000/\xs.length<=1000/\∀ p,H p=none->Q (.ref p) (upd H p (.tup (List.replicate k.toNat xs).flatten))
theorem F8:OpR X (binaryOp .Mult) (Gs X.K):=by
 intro pins s σ H x y v u Q I rx ry h
 obtain⟨a,k,xs,rfl,rfl,hs,hx,k2,k9,hl9,q⟩:=h
 cases (show v=Value.ref a from rx)
 obtain⟨t,e⟩:=(show ∃ t,u=Value.int k t from ry)
 subst e
 obtain⟨its,rv,⟨⟨c,dd,dt,sl⟩,ho,hc1,n,hd1⟩,hz⟩:=I.tuple hs
 dsimp only at hc1 hd1
 subst hc1 hd1
 have hlen:=rv.length
 have ne:its≠[]:=fun z=>hx (by
  rw[z]at hlen
  exact length_eq_zero_iff.mp hlen)
 have f0:∀ m:Nat,List.foldl (fun x1 x2=>x1++x2) #[] (List.replicate m its.toArray)=(List.replicate m its).flatten.toArray:=fun m=>by
  have:=wU its m []
  rw[nil_append]at this
  exact this
 have kn:k.toNat<=1000:=by omega
 have prod:its.length * k.toNat<=1000000:=by
  have h1:its.length<=1000:=by omega
  exact Nat.mul_le_mul h1 kn
 have fl:((List.replicate k.toNat its).flatten).length=its.length * k.toNat:=by
  rw[List.length_flatten]
  simp [Nat.mul_comm]
 have zl:(1000000:Nat)<=sizeLine:=by decide
 have ek:(k.toNat:Int)=k:=Int.toNat_of_nonneg (by omega)
 have pk:(its.toArray.size:Int) * k=((its.length * k.toNat:Nat):Int):=by
  rw[<- ek]
  push_cast
  simp
 refine wpAny_binaryOp_repeat_ref (T:="tuple") (U:="int") (by decide) ⟨_,ho,rfl⟩ (fun s'=>typeIs_int s' k t) lD PySem.F.fills_int_mul PySem.F.slot_int_rmul qE PySem.F.slot_int_index.lookup
  (call_meets PySem.F.slot_int_rmul (typeIs_int s k t) PySem.F.entry_int_rmul (PySem.F.args_int_rmul_2 _ _) (yD k t a its.toArray n dd sl) ⟨ho,rfl,⟨_,ho,rfl⟩,
   call_meets PySem.F.slot_tuple_mul ⟨_,ho,rfl⟩ PySem.F.entry_tuple_mul (PySem.F.args_tuple_mul_2 _ _) (HU a its.toArray n dd sl k t ?_ ?_ ?_ ?_ ?_ ?_) ⟨ho,?_⟩⟩)
 ·simp
  omega
 ·simp [ne]
  omega
 ·simp [ne]
  omega
 ·rw[pk]
  have:=Int.ofNat_le.mpr prod
  omega
 ·rw[pk]
  unfold Builtin.Tuple.tupleTooMany
  have z1:=Int.ofNat_le.mpr prod
  have z2:=Int.ofNat_le.mpr zl
  intro z
  have z3:=of_decide_eq_true z
  omega
 ·rw[f0,size_toArray,fl]
  omega
 ·rw[f0]
  refine⟨.ref s.heap.objs.size,_,I.laid (t':=s.toks) (o:=.tup (List.replicate k.toNat xs).flatten) (fun b ob q=>get?_push_of_some _ q) (le_refl _) ?_,rfl,q _ (I.hok.fresh (le_refl _))⟩
  have rr:=rv.rep k.toNat
  exact⟨by rw[rr.length,fl]; omega,_,rr,IsTup.new _ _⟩
end
structure Src (J:It) (H:Hp) (n:Nat) (Y:Nat->V->Hp->Prop):Prop where
 go:∀ i H',i<n->aG H H'->J.go i H'
 yld:∀ i H' x H'',i<n->aG H H'->J.yld i H' x H''->aG H' H''/\Y i x H''
 stop:∀ H',aG H H'->J.stop n H'
section
variable {K:PySem.W.Frag} {H:Hp} {a:Addr} {xs:List V}
theorem bT (h:SqL K H a xs):Src (Itl K a) H xs.length (fun i x _=>xs[i]? = some x) where
 go:=fun i H' hi s=>⟨xs,xs[i],s.seq h,by simp [hi]⟩
 yld:=fun i H' x H'' hi s y=>⟨by rw[y.1]; exact aG.refl _,y.2 xs (s.seq h)⟩
 stop:=fun H' s=>⟨xs,s.seq h,le_refl _⟩
theorem CA (h:SqT K H a xs):Src (Itt K a) H xs.length (fun i x _=>xs[i]? = some x) where
 go:=fun i H' hi s=>⟨xs,xs[i],s.seqT h,by simp [hi]⟩
 yld:=fun i H' x H'' hi s y=>⟨by rw[y.1]; exact aG.refl _,y.2 xs (s.seqT h)⟩
 stop:=fun H' s=>⟨xs,s.seqT h,le_refl _⟩
theorem pE (lo:Int) (n:Nat):Src (Itr lo n) H n (fun i x _=>x = .int (lo+i)) where
 go:=fun i H' hi s=>hi
 yld:=fun i H' x H'' hi s y=>⟨by rw[y.1]; exact aG.refl _,y.2⟩
 stop:=fun H' s=>le_refl _
theorem D8 (lo:Int) (h:SqT K H a xs):Src (Ite K lo a) H xs.length (fun i x H'=>∃ p v,x = .ref p/\H' p=some (.tup [.int (lo+i),v])/\xs[i]? = some v) where
 go:=fun i H' hi s=>⟨xs,xs[i],s.seqT h,by simp [hi]⟩
 yld:=fun i H' x H'' hi s ⟨p,v,e1,e2,e3,e4⟩=>⟨by rw[e3]; exact aI e2,p,v,e1,by rw[e3]; exact aC,e4 xs (s.seqT h)⟩
 stop:=fun H' s=>⟨xs,s.seqT h,le_refl _⟩
end
def Ap (H H':Hp):Prop:=∀ b o,H b=some o->(∀ zs,o ≠ .lst zs)->H' b=some o
theorem aG.n {H H':Hp} (s:aG H H'):Ap H H':=fun b o e _=>s b o e
theorem v5 {H:Hp} {D:Addr} {ys zs:List V} (h:H D=some (.lst ys)):Ap H (upd H D (.lst zs)):=fun b o e n=>by
 rw[aF (fun z=>by rw[z,h]at e; exact n ys (Option.some.inj e).symm)]
 exact e
theorem fF {J:It} {H:Hp} {n:Nat} {Y:Nat->V->Hp->Prop} {T:List Str} {F:List (Str × Nat)} {σ : St} {g:TG} {te:TE} {Q:VK} (S:Src J H n Y) (hn:n<=sizeLine) (R:Nat->V->Hp->Prop) (stab:∀ i y H1 H2,Ap H1 H2->R i y H1->R i y H2) (Z:St->Prop) (h0:Z (lI T F σ))
  (step:∀ i x σc H3,i<n->Z σc->aG H H3->Y i x H3->∀ (Q':St->V->Hp->Prop),(∀ σ4 y H6,Z σ4->aG H3 H6->R i y H6->Q' σ4 y H6)->g x σc H3 fun σ4 H4=>te σ4 H4 fun y H6=>Q' σ4 y H6)
  (fin:∀ D ys H',H D=none->aG H H'->H' D=some (.lst ys)->ys.length=n->(∀ i y,ys[i]? = some y->R i y H')->Q (.ref D) H') :
  u3 T F g qV te σ Q J H:=by
 intro D hD
 refine⟨fun i m ys σc H2=>m=n - i/\i<=n/\Z σc/\aG H H2/\H2 D=some (.lst ys)/\ys.length=i/\∀ j y,ys[j]? = some y->R j y H2,⟨n,rfl,zero_le _,h0,aI hD,aC,rfl,fun j y e=>by simp at e⟩,?_⟩
 rintro i m ys σc H2 ⟨rfl,hi,hz,hs,hd,hl,hr⟩
 refine⟨hd,?_⟩
 by_cases hlt:i<n
 ·refine .inr ⟨S.go i H2 hlt hs,by omega,fun x H3 y=>?_⟩
  obtain⟨s3,y3⟩:=S.yld i H2 x H3 hlt hs y
  simp only[qV,if_true]
  refine step i x σc H3 hlt hz (hs.trans s3) y3 (fun σ4 y H6=>H6 D=some (.lst ys)/\∃ m',m'<n - i/\m'=n - (i+1)/\i+1<=n/\Z σ4/\aG H (upd H6 D (.lst (ys++[y])))/\(upd H6 D (.lst (ys++[y]))) D=some (.lst (ys++[y]))/\(ys++[y]).length=i+1/\∀ j z,(ys++[y])[j]? = some z->R j z (upd H6 D (.lst (ys++[y])))) fun σ4 y H6 z4 s6 r6=>?_
  have d6:H6 D=some (.lst ys):=s6 _ _ (s3 _ _ hd)
  have sU:∀ {H1:Hp},aG H1 H6->H1 D=none->aG H1 (upd H6 D (.lst (ys++[y]))):=fun {H1} s b=>fun c u e=>by
   rw[aF (bC e b)]
   exact s c u e
  refine⟨d6,n - (i+1),by omega,rfl,hlt,z4,sU ((hs.trans s3).trans s6) hD,aC,by rw[length_append,hl]; rfl,fun j z e=>?_⟩
  have up:=v5 (zs:=ys++[y]) d6
  by_cases hj:j<ys.length
  ·rw[getElem?_append_left hj]at e
   exact stab _ _ _ _ up (stab _ _ _ _ (s3.trans s6).n (hr j z e))
  ·have hj2:j=ys.length:=by
    have:=(List.getElem?_eq_some_iff.mp e).1
    rw[length_append]at this
    simp at this
    omega
   subst hj2
   rw[getElem?_append_right (le_refl _)]at e
   simp at e
   subst e
   rw[hl]
   exact stab _ _ _ _ up r6
 ·have hin:i=n:=by omega
  subst hin
  exact .inl ⟨S.stop H2 hs,fin D ys H2 hD hs hd hl hr⟩
mutual
noncomputable def lN:PyData->Bool
 | .none | .bool _ | .int _ | .str _=>true
 | .tuple ds=>dE ds
 | _=>false
noncomputable def dE:List PyData->Bool
 | []=>true
 | d::ds=>lN d && dE ds
end
mutual
theorem Den.n {H H':Hp} (e:Ap H H'):∀ {d:PyData} {v:V},lN d=true->Den H d v->Den H' d v
 | .none,v,t,h=>by simp only[Den]at h ⊢; exact h
 | .bool b,v,t,h=>by simp only[Den]at h ⊢; exact h
 | .int i,v,t,h=>by simp only[Den]at h ⊢; exact h
 | .str x,v,t,h=>by simp only[Den]at h ⊢; exact h
 | .tuple ds,v,t,h=>by
  simp only[Den]at h ⊢
  simp only[lN]at t
  obtain⟨a,xs,e1,h1,h2⟩:=h
  exact⟨a,xs,e1,e _ _ h1 (fun zs z=>by cases z),aV.n e t h2⟩
 | .list ds,v,t,h=>by simp [lN]at t
 | .dict _,v,t,h=>by simp only[Den]at h
theorem aV.n {H H':Hp} (e:Ap H H'):∀ {ds:List PyData} {xs:List V},dE ds=true->aV H ds xs->aV H' ds xs
 | [],xs,t,h=>by simp only[aV]at h ⊢; exact h
 | d::ds,xs,t,h=>by
  simp only[aV]at h ⊢
  simp only[dE,and_eq_true]at t
  obtain⟨x,r,e1,h1,h2⟩:=h
  exact⟨x,r,e1,Den.n e t.1 h1,aV.n e t.2 h2⟩
end
noncomputable def tyD:PyData->Value
 | .none=>.type "NoneType"
 | .bool _=>.type "bool"
 | .int _=>.type "int"
 | .str _=>.type "str"
 | .tuple _=>.type "tuple"
 | .list _=>.type "list"
 | .dict _=>.type "dict"
theorem Den.ty {K:PySem.W.Frag} {H:Hp}:∀ {d:PyData} {v:V},Den H d v->TyOf K H v (tyD d)
 | .none,v,h=>by simp only[Den]at h; subst h; exact .non
 | .bool b,v,h=>by simp only[Den]at h; subst h; exact .bl b
 | .int i,v,h=>by simp only[Den]at h; subst h; exact .int i
 | .str x,v,h=>by simp only[Den]at h; subst h; exact .str x
 | .tuple ds,v,h=>by
  simp only[Den]at h
  obtain⟨a,xs,e1,h1,h2⟩:=h
  subst e1
  exact .tup h1
 | .list ds,v,h=>by
  simp only[Den]at h
  obtain⟨a,xs,e1,h1,h2⟩:=h
  subst e1
  exact .lst h1
 | .dict _,v,h=>by simp only[Den]at h
theorem b8 {H:Hp}:∀ {ns:List Int} {xs:List V},aV H (ns.map PyData.int) xs ↔ xs=ns.map V.int
 | [],xs=>by simp [aV]
 | n::ns,xs=>by
  simp only[map_cons,aV,Den]
  constructor
  ·rintro ⟨x,r,e1,e2,h⟩
   subst e2
   rw[e1,b8.mp h]
  ·intro h
   exact⟨_,_,h,rfl,b8.mpr rfl⟩
theorem aV.length {H:Hp}:∀ {ds:List PyData} {xs:List V},aV H ds xs->xs.length=ds.length
 | [],xs,h=>by simp only[aV]at h; subst h; rfl
 | d::ds,xs,h=>by
  simp only[aV]at h
  obtain⟨x,r,e1,_,h2⟩:=h
  rw[e1,length_cons,length_cons,aV.length h2]
theorem aV.get {H:Hp}:∀ {ds:List PyData} {xs:List V} {i:Nat} {x:V},aV H ds xs->xs[i]? = some x->∃ d,ds[i]? = some d/\Den H d x
 | [],xs,i,x,h,e=>by simp only[aV]at h; subst h; simp at e
 | d::ds,xs,0,x,h,e=>by
  simp only[aV]at h
  obtain⟨y,r,e1,h1,_⟩:=h
  subst e1
  simp at e
  subst e
  exact⟨d,rfl,h1⟩
 | d::ds,xs,i+1,x,h,e=>by
  simp only[aV]at h
  obtain⟨y,r,e1,_,h2⟩:=h
  subst e1
  simp at e
  obtain⟨d',e',h'⟩:=aV.get h2 e
  exact⟨d',by simpa using e',h'⟩
theorem E2 {K:PySem.W.Frag} (d:PyData):PySem.W.kitOne K (tyD d) (.type "bool")=some (match d with | .bool _=>true | _=>false):=by
 cases d <;> rfl
theorem mV {K:PySem.W.Frag} (d:PyData):PySem.W.kitOne K (tyD d) (.type "int")=some (match d with | .bool _=>true | .int _=>true | _=>false):=by
 cases d <;> rfl
theorem CT {K:PySem.W.Frag} (d:PyData):PySem.W.kitOne K (tyD d) (.type "str")=some (match d with | .str _=>true | _=>false):=by
 cases d <;> rfl
theorem wJ {K:PySem.W.Frag} (d:PyData):PySem.W.kitOne K (tyD d) (.type "tuple")=some (match d with | .tuple _=>true | _=>false):=by
 cases d <;> rfl
section
variable {X:Cx}
theorem fT (K:PySem.W.Frag) (hK:X.K=K:=by rfl):IxR X (HF K):=by
 subst hK
 exact GS
theorem cJ (K:PySem.W.Frag) (hK:X.K=K:=by rfl):IxR X (qF K):=by
 subst hK
 exact He
theorem BM (K:PySem.W.Frag) (hK:X.K=K:=by rfl):OpR X (compareOp .In) (rIn K false):=by
 subst hK
 exact C8
theorem C6 (K:PySem.W.Frag) (hK:X.K=K:=by rfl):OpR X (compareOp .NotIn) (rIn K true):=by
 subst hK
 exact yI
def rLen (K:PySem.W.Frag):List V->Hp->VK->Prop:=fun xs H Q=>∃ p ys,xs=[.ref p]/\(SqL K H p ys\/SqT K H p ys)/\Q (.int ys.length) H
theorem dQ (K:PySem.W.Frag) (hK:X.K=K:=by rfl):eY X (.builtin "len") (rLen K):=by
 subst hK
 exact zF
theorem iG (K:PySem.W.Frag) (hK:X.K=K:=by rfl):eY X (.builtin "isinstance") (rIsi K):=by
 subst hK
 exact FT
theorem qT (K:PySem.W.Frag) (hc:X.calm=true:=by rfl) (hK:X.K=K:=by rfl):eY X (.builtin "sum") (rSum K):=by
 subst hK
 exact Dg hc
theorem xF (K:PySem.W.Frag) (hc:X.calm=true:=by rfl) (hK:X.K=K:=by rfl):eY X (.builtin "all") (rAll K):=by
 subst hK
 exact Dj hc
def EL (K:PySem.W.Frag):List V->Hp->VK->Prop:=fun xs H Q=>∃ p ys,xs=[.ref p]/\((SqL K H p ys/\∀ l,H l=none->Q (.ref l) (upd H l (.tup ys)))\/(SqT K H p ys/\Q (.ref p) H))
theorem Al (K:PySem.W.Frag) (hK:X.K=K:=by rfl):eY X (.type "tuple") (EL K):=by
 subst hK
 exact vR
theorem DI (K:PySem.W.Frag) (hK:X.K=K:=by rfl):MtR X "tuple.index" (ET K):=by
 subst hK
 exact Ew
theorem Ek (K:PySem.W.Frag) (hK:X.K=K:=by rfl):OpR X (binaryOp .Mult) (Gs K):=by
 subst hK
 exact F8
theorem sO (K:PySem.W.Frag) (hK:X.K=K:=by rfl):SlR X (rSlL K):=by
 subst hK
 exact Fq
theorem CK (K:PySem.W.Frag) {es:List Expr} {k:Nat} {t:TGs} {n:Nat} {pos:Pos} (h:PGs X es t) (hc:X.calm=true:=by rfl) (hK:X.K=K:=by rfl) (hn:(assignEach es X.env).length=n:=by rfl) (hst:(assignEach es X.env).findIdx? (·.1)=none:=by rfl):PG X (.Tuple es k pos) (Hj K n t):=by
 subst hK
 exact HJ hc h hn hst
theorem bU (K:PySem.W.Frag) {tg l:Expr} {tl:TE} (hl:PE X l tl) (hK:X.K=K:=by rfl):PI X tg l (kC K tl):=by
 subst hK
 exact F1 hl
theorem CI (K:PySem.W.Frag) {tg l:Expr} {tl:TE} (hl:PE X l tl) (hK:X.K=K:=by rfl):PI X tg l (iTup K tl):=by
 subst hK
 exact HH hl
theorem C5 (K:PySem.W.Frag) {ex:Expr} {elts:List Expr} {x1 k:Nat} {tp p pos cp kp:Pos} {ta:TE} (hm:X.mg "enumerate" = none) (ha:PE X ex ta) (hg:Gl X "enumerate":=by rfl) (hs:starEach [ex] X.env=[(false,eval ex X.env)]:=by rfl) (hK:X.K=K:=by rfl) :
  PI X (.Tuple elts x1 tp) (.Call (.Name "enumerate" p) [ex] [⟨some "start",.Constant (.int 1) k cp,kp⟩] pos) (Gy K 1 ta):=by
 subst hK
 exact Eb hm ha hg hs
end
def TupM (K:PySem.W.Frag) (H:Hp) (x:V):Prop:=∃ p,x = .ref p/\((∃ o u,H p=some (.frz o u)/\o.cls = .type "tuple"/\o.dict=none)\/∃ o,K.lookup p=some o/\o.cls = .type "tuple"/\o.dict=none)
def tBMT (K:PySem.W.Frag) (r:V->List V->Hp->VK->Prop) (to:TE) (t:TA):TE:=fun σ H Q=>to σ H fun x H1=>TupM K H1 x/\t σ H1 fun xs H2=>r x xs H2 Q
section
variable {X:Cx} {o e:Expr} {es:List Expr} {t:TA} {to:TE} {pos apos cpos:Pos} {name:Str} {id:String} {r:V->List V->Hp->VK->Prop}
theorem HM (K:PySem.W.Frag) (slot:Slot "tuple" name id) (hty:typeOf (.builtin id)=pure (.type "method_descriptor")) (hm:MtR X id r) (ho:PE X o to) (ha:PA X (e::es) t) (hK:X.K=K:=by rfl)
  (hbase:attributeBase o name X.env (eval o X.env)=eval o X.env:=by rfl)
  (hfew:((backTo cpos (starEach (e::es) X.env)).all (fun x=>!x.1) && (backToKw cpos (keywordEach [] X.env)).all (fun x=>x.1.isSome)
   && decide ((e::es).length+([]:List Keyword).length+(if ([]:List Keyword).isEmpty then 0 else 1)<30))=true:=by rfl)
  (hline:(apos.endLine == cpos.line)=true:=by rfl) (hs:starEach (e::es) X.env=(false,eval e X.env)::starEach es X.env:=by rfl) (hplain:(backTo cpos (starEach es X.env)).any (·.1)=false:=by rfl) :
  PE X (.Call (.Attribute o name apos) (e::es) [] cpos) (tBMT K r to t):=by
 subst hK
 intro pins s σ H Q I h
 refine wpAny_Call_method_late hbase hfew hline rfl (thn (ho pins s σ H _ I h) fun v s1 zQq=>?_)
 obtain⟨x,H1,I1,r1,ty,q1⟩:=zQq
 obtain⟨p,ex,ty⟩:=ty
 subst ex
 cases (show v=Value.ref p from r1)
 have hob:∃ ob,s1.heap.get? p=some ob/\ob.cls = .type "tuple"/\ob.dict=none:=by
  rcases ty with ⟨ob,u,z1,z2,z3⟩ | ⟨ob,z1,z2,z3⟩
  ·obtain⟨g,_⟩:=I1.hok p _ z1
   exact⟨ob,g,z2,z3⟩
  ·exact⟨ob,I1.kIn _ _ z1,z2,z3⟩
 obtain⟨ob,g1,g2,g3⟩:=hob
 refine⟨"tuple",id,PySem.F.plainAttrs_tuple,slot,hty,⟨ob,g1,g2⟩,(fun b eb=>by cases eb; exact⟨ob,g1,g3⟩),?_⟩
 have hA:=ha cpos pins s1 σ H1 _ I1 q1
 rw[hs]at hA ⊢
 refine Calls.callWith_builtin (by show (false || (backTo cpos (starEach es X.env)).any (·.1))=false; rw[hplain] <;> rfl) (Calls.evalArgs_plain ?_)
 exact thn hA fun us s2 ⟨vs,H2,I2,r2,q2⟩=>hm pins s2 σ H2 (.ref p) vs (.ref p) us Q I2 rfl r2 q2
end
theorem aV.app {H:Hp}:∀ {d1 d2:List PyData} {x1 x2:List V},aV H d1 x1->aV H d2 x2->aV H (d1++d2) (x1++x2)
 | [],d2,x1,x2,h1,h2=>by
  simp only[aV]at h1
  subst h1
  exact h2
 | d::d1,d2,x1,x2,h1,h2=>by
  simp only[aV]at h1
  obtain⟨x,r,e,k1,k2⟩:=h1
  subst e
  show aV H (d::(d1++d2)) (x::(r++x2))
  simp only[aV]
  exact⟨x,_,rfl,k1,k2.app h2⟩
theorem bZ {α : Type} {xs:List α} {i:Int} {v:α} (h:0<=i) (e:xs[i.toNat]? = some v):atI xs i=some v:=by
 obtain⟨j,rfl⟩:=Int.eq_ofNat_of_zero_le h
 exact bS (by simpa using e)
theorem FJ (ns ms:List Int):PyData.eqv (.tuple (ns.map .int)) (.tuple (ms.map .int))=decide (ns=ms):=by
 show PyData.eqvAll _ _=_
 exact ked_eqvAll ns ms
theorem uI:∀ ns:List Int,PyData.canLayAll0 (ns.map .int)=true
 | []=>rfl
 | n::ns=>by
  show (true && _)=true
  rw[Bool.true_and]
  exact uI ns
theorem depth_ints:∀ ns:List Int,PyData.depthAll (ns.map .int)=0
 | []=>rfl
 | n::ns=>by
  show max 0 (PyData.depthAll (ns.map .int))=0
  rw[depth_ints ns]
  rfl
theorem qX (ns:List Int):SeqAt.shaped (.tuple (ns.map .int))=true:=by
 unfold SeqAt.shaped
 have h1:PyData.canLay0 (.tuple (ns.map .int))=true:=uI ns
 have h2:PyData.depth (.tuple (ns.map .int))=1:=by
  show PyData.depthAll (ns.map .int)+1=1
  rw[depth_ints]
 rw[h1,h2]
 rfl
section
variable {X:Cx} {es:List Expr} {te:TE} {t:TA}
theorem aP {v:Const} {k:Nat} {p:Pos} (ha:PE X (.Constant v k p) te) (hr:PA X es t):PA X (.Constant v k p::es) (cI te t):=gP ha hr rfl
theorem aD {x:Str} {p:Pos} (ha:PE X (.Name x p) te) (hr:PA X es t):PA X (.Name x p::es) (cI te t):=gP ha hr rfl
theorem dN {l:List Expr} {k:Nat} {p:Pos} (ha:PE X (.Tuple l k p) te) (hr:PA X es t):PA X (.Tuple l k p::es) (cI te t):=gP ha hr rfl
theorem rT {l:List Expr} {p:Pos} (ha:PE X (.List l p) te) (hr:PA X es t):PA X (.List l p::es) (cI te t):=gP ha hr rfl
theorem cG {a:Expr} {o:Operator} {b:Expr} {p:Pos} (ha:PE X (.BinOp a o b p) te) (hr:PA X es t):PA X (.BinOp a o b p::es) (cI te t):=gP ha hr rfl
theorem eT {f:Expr} {as:List Expr} {kw:List Keyword} {p:Pos} (ha:PE X (.Call f as kw p) te) (hr:PA X es t):PA X (.Call f as kw p::es) (cI te t):=gP ha hr rfl
theorem aN {a b:Expr} {p:Pos} (ha:PE X (.Subscript a b p) te) (hr:PA X es t):PA X (.Subscript a b p::es) (cI te t):=gP ha hr rfl
theorem cT {a:Expr} {x:Str} {p:Pos} (ha:PE X (.Attribute a x p) te) (hr:PA X es t):PA X (.Attribute a x p::es) (cI te t):=gP ha hr rfl
theorem eK {a:Expr} {gs:List Comprehension} {sc:Scope} {p:Pos} (ha:PE X (.ListComp a gs sc p) te) (hr:PA X es t):PA X (.ListComp a gs sc p::es) (cI te t):=gP ha hr rfl
end
end L2
end
section
namespace HT
open PySem PySem.Spec PyProof.Rows
section
variable {prog:Program} {w:World} {A:Around} {E:Value->Shared->Prop} {s:Shared}
theorem m7 {t sl:Addr} {items:Array Value} {vl vu:Value} {lo hi:Option Int} {Q:Value->Shared->Prop} (ht:IsTup s.heap t items) (hs:s.heap.IsSliceOf sl vl vu .none) (pl:IsPart vl lo) (pu:IsPart vu hi)
  (hw:sIx items.size 0 lo=0/\sIx items.size items.size hi=items.size) (h:Q (.ref t) s):wpAny (model prog w) A (getItem (.ref t) (.ref sl)) Q E s:=by
 obtain⟨os,hos,hcs,hds⟩:=id hs
 have hTs:s.TypeIs (.ref sl) "slice":=⟨os,hos,hcs⟩
 unfold getItem
 try with_reducible refine wpAny_holding ?_
 first | refine wpAny_bind (wpAny_pure ?_) | skip
 refine wpAny_bind (wpAny_sequenceKey ht.typeIs (by decide) ?_)
 refine wpAny_bind (wpAny_callSpecial?_slot (name:=Str.ofString "__getitem__") ht.typeIs PyProof.Rows.slot_tuple_getitem
  (wpAny_call_entry PyProof.Rows.slot_tuple_getitem ht.typeIs entry_tuple_getitem ?_ (args_tuple_getitem _ _)))
 show wpAny _ _ (Builtin.Tuple.tupleItemsOf (.ref t) >>= _) _ _ s
 refine wpAny_bind (tupleItemsOf_ ht ?_)
 refine wpAny_bind (wpAny_typeOf hTs ?_)
 rw[if_pos (by decide)]
 refine wpAny_bind (jO hs pl pu ?_)
 have hyes:(((sIx items.size 0 lo:Nat):Int) == 0 && (1:Int) == 1 && (sIx items.size items.size hi - sIx items.size 0 lo) == items.size)=true:=by
  rw[hw.1,hw.2]
  simp
 show wpAny _ _ (if (((sIx items.size 0 lo:Nat):Int) == 0 && (1:Int) == 1 && (sIx items.size items.size hi - sIx items.size 0 lo) == items.size)=true then _ else _) _ _ s
 rw[if_pos hyes]
 refine wpAny_bind ?_
 unfold Builtin.Tuple.tupleIsExact
 refine wpAny_bind (wpAny_typeOf ht.typeIs (wpAny_pure ?_))
 rw[if_pos (by decide)]
 refine wpAny_bind (wpAny_rule ?_)
 exact wpAny_pure ⟨_,rfl,wpAny_pure h⟩
end
end HT
namespace L2
open PySem PySem.Spec PyProof.Rows
section
variable {X:Cx}
def ER (K:PySem.W.Frag):V->Option Int->Option Int->Hp->VK->Prop:=fun x lo hi H Q=>∃ a xs,x = .ref a/\SqT K H a xs/\
 ((HT.sIx xs.length 0 lo=0/\HT.sIx xs.length xs.length hi=xs.length)->Q (.ref a) H)/\(¬ (HT.sIx xs.length 0 lo=0/\HT.sIx xs.length xs.length hi=xs.length)->∀ p,H p=none->Q (.ref p) (upd H p (.tup (iU xs lo hi))))
theorem Cv:SlR X (ER X.K):=by
 intro pins s σ H x v vl vu lo hi sl Q I rx hs pl pu h
 obtain⟨a,xs,rfl,hx,q1,q2⟩:=h
 by_cases hw:HT.sIx xs.length 0 lo=0/\HT.sIx xs.length xs.length hi=xs.length
 ·cases rx
  obtain⟨its,r,ht,hz⟩:=I.tuple hx
  have hlen:its.toArray.size=xs.length:=by rw[size_toArray]; exact r.length.symm
  refine⟨"tuple",_,PyProof.Rows.slot_tuple_getitem.lookup,ht.typeIs,?_⟩
  exact HT.m7 ht hs pl pu (by rw[hlen]; exact hw) ⟨.ref a,H,I,rfl,q1 hw⟩
 ·exact HA pins s σ H (.ref a) v vl vu lo hi sl Q I rx hs pl pu ⟨a,xs,rfl,hx,hw,q2 hw⟩
theorem oG (K:PySem.W.Frag) (hK:X.K=K:=by rfl):SlR X (ER K):=by
 subst hK
 exact Cv
end
theorem kD {J:It} {H0 H:Hp} {n:Nat} {Y:Nat->V->Hp->Prop} {g:TG} {tb:TS} {D:Ends} {σ : St} (S:Src J H0 n Y) (Pv:Nat->St->Hp->Prop) (h0:Pv 0 σ H) (keep:∀ i σ H',Pv i σ H'->aG H0 H')
  (step:∀ i x σ H1 H2,i<n->Pv i σ H1->aG H1 H2->Y i x H2->g x σ H2 fun σ2 H3=>tb { D with nx:=Pv (i+1),ct:=Pv (i+1),bk:=D.nx } σ2 H3) (fin:∀ σ H',Pv n σ H'->D.nx σ H') :
  ∃ W:Nat->Nat->St->Hp->Prop,(∃ m,W 0 m σ H)/\∀ i m σ H,W i m σ H->
   (J.stop i H/\D.nx σ H)\/(J.go i H/\∃ N:St->Hp->Prop,(∀ σ' H',N σ' H'->∃ m',m'<m/\W (i+1) m' σ' H')/\∀ x H',J.yld i H x H'->g x σ H' fun σ2 H2=>tb { D with nx:=N,ct:=N,bk:=D.nx } σ2 H2):=by
 refine⟨fun i m σ H'=>m=n - i/\i<=n/\Pv i σ H',⟨n,rfl,zero_le _,h0⟩,?_⟩
 rintro i m σ H1 ⟨rfl,hi,p⟩
 have s1:=keep i σ H1 p
 by_cases hlt:i<n
 ·refine .inr ⟨S.go i H1 hlt s1,Pv (i+1),fun σ' H' p'=>⟨n - (i+1),by omega,rfl,hlt,p'⟩,fun x H' y=>?_⟩
  obtain⟨s2,y2⟩:=S.yld i H1 x H' hlt s1 y
  exact step i x σ H1 H' hlt p s2 y2
 ·have hin:i=n:=by omega
  subst hin
  exact .inl ⟨S.stop H1 s1,fin σ H1 p⟩
theorem mE {J:It} {H:Hp} {n:Nat} {Y:Nat->V->Hp->Prop} {T:List Str} {F:List (Str × Nat)} {σ : St} {g:TG} {tc:TT} {te:TE} {Q:VK} (S:Src J H n Y) (hn:n<=sizeLine) (t:Nat->Bool) (f:Nat->V) (Z:St->Prop) (h0:Z (lI T F σ))
  (step:∀ i x σc H3,i<n->Z σc->aG H H3->Y i x H3->∀ (Q1:Hp->Prop) (Q2:St->V->Hp->Prop) (Q3:St->Hp->Prop),(∀ σ4,Z σ4->t i=true->Q2 σ4 (f i) H3)->(∀ σ4,Z σ4->t i=false->Q3 σ4 H3)->
   g x σc H3 fun σ4 H4=>tc σ4 H4 fun b H5=>if b=true then te σ4 H5 fun y H6=>Q2 σ4 y H6 else Q3 σ4 H5)
  (fin:∀ D H',H D=none->aG H H'->H' D=some (.lst (((List.range n).filter t).map f))->Q (.ref D) H') :
  u3 T F g tc te σ Q J H:=by
 intro D hD
 refine⟨fun i m ys σc H2=>m=n - i/\i<=n/\Z σc/\aG H H2/\H2 D=some (.lst ys)/\ys=((List.range i).filter t).map f,⟨n,rfl,zero_le _,h0,aI hD,aC,rfl⟩,?_⟩
 rintro i m ys σc H2 ⟨rfl,hi,hz,hs,hd,hy⟩
 refine⟨hd,?_⟩
 by_cases hlt:i<n
 ·refine .inr ⟨S.go i H2 hlt hs,?_,fun x H3 y=>?_⟩
  ·rw[hy,length_map]
   have:=length_filter_le t (List.range i)
   rw[length_range]at this
   omega
  obtain⟨s3,y3⟩:=S.yld i H2 x H3 hlt hs y
  have d3:H3 D=some (.lst ys):=s3 _ _ hd
  refine step i x σc H3 hlt hz (hs.trans s3) y3 (fun _=>True) (fun σ4 y H6=>H6 D=some (.lst ys)/\∃ m',m'<n - i/\m'=n - (i+1)/\i+1<=n/\Z σ4/\aG H (upd H6 D (.lst (ys++[y])))/\(upd H6 D (.lst (ys++[y]))) D=some (.lst (ys++[y]))/\(ys++[y])=((List.range (i+1)).filter t).map f)
   (fun σ4 H5=>∃ m',m'<n - i/\m'=n - (i+1)/\i+1<=n/\Z σ4/\aG H H5/\H5 D=some (.lst ys)/\ys=((List.range (i+1)).filter t).map f) (fun σ4 z4 ht=>?_) fun σ4 z4 ht=>?_
  ·refine⟨d3,n - (i+1),by omega,rfl,hlt,z4,fun c u e=>?_,aC,?_⟩
   ·rw[aF (bC e hD)]
    exact(hs.trans s3) c u e
   ·rw[range_succ,filter_append,map_append,<- hy]
    simp [ht]
  ·refine⟨n - (i+1),by omega,rfl,hlt,z4,hs.trans s3,d3,?_⟩
   rw[range_succ,filter_append,map_append,<- hy]
   simp [ht]
 ·have hin:i=n:=by omega
  subst hin
  exact .inl ⟨S.stop H2 hs,fin D H2 hD hs (by rw[hd,hy])⟩
section
variable {X:Cx} {pins:List (Addr × Obj)} {σ : St} {H:Hp} {s:Shared}
end
section
variable {K:PySem.W.Frag} {H:Hp} {a:Addr} {xs:List V}
end
theorem iA (a:Value):checkBuiltinCall "sorted" ⟨[a],[]⟩=pure ():=by kernel_rfl
section
variable {X:Cx}
theorem wM {prog:Program} {w:World} {kvs:List (Key × Value)} {ns:List Int} (hk:kvs.map (·.1)=ns.map Sum.inl):∀ {acc:List Value},acc.length=kvs.length->(∀ (j:Nat) (v:Value),acc[j]? = some v->∃ k x,kvs[j]? = some (k,x)/\(cE prog w).is k v=true)->IntsAre acc ns:=by
 induction kvs generalizing ns with
 | nil=>
  intro acc hl _
  cases ns with
  | nil=>
   cases acc with
   | nil=>exact .nil
   | cons _ _=>simp at hl
  | cons _ _=>simp at hk
 | cons kv kvs ih=>
  intro acc hl h
  cases ns with
  | nil=>simp at hk
  | cons n ns=>
   cases acc with
   | nil=>simp at hl
   | cons v acc=>
    simp only[map_cons,List.cons.injEq]at hk
    obtain⟨k,x,h1,h2⟩:=h 0 v rfl
    have h1:kv=(k,x):=by simpa using h1
    subst h1
    have hk1:k=Sum.inl n:=hk.1
    subst hk1
    have hv:∃ t,v = .int n t:=by
     have h2:Value.isInt n v=true:=h2
     cases v <;> simp_all [Value.isInt]
    obtain⟨t,rfl⟩:=hv
    exact .cons n t (ih hk.2 (by simpa using hl) fun j v hv=>by
     obtain⟨k,x,h1,h2⟩:=h (j+1) v (by simpa using hv)
     exact⟨k,x,by simpa using h1,h2⟩)
def EQ:List V->Hp->VK->Prop:=fun xs H Q=>∃ d kvs ns,xs=[.ref d]/\H d=some (.dK kvs)/\kvs.map (·.1)=ns.map Sum.inl/\ns.length<64/\
 ∀ p ms,List.Perm ms ns->ms.Pairwise (· <= ·)->H p=none->Q (.ref p) (upd H p (.lst (ms.map .int)))
theorem rW {κ : Type} {kvs:List (κ × V)} {vs:List (κ × Value)} (r:KV kvs vs):kvs.map (·.1)=vs.map (·.1):=by
 induction r with
 | nil=>rfl
 | cons h _ ih=>
  rw[map_cons,map_cons,ih]
  congr 1
  exact h.1
theorem zD (hc:X.calm=true):eY X (.builtin "sorted") EQ:=by
 intro pins s σ H xs us Q I r h
 obtain⟨d,kvs,ns,rfl,hd,hk,hl,q⟩:=h
 cases r with
 | cons r1 r2=>
  cases r2
  cases (show _=Value.ref d from r1)
  obtain⟨hz,hsm,vs,rel,o,es,ep,dd⟩:=wZ I.hok hd
  have hh:X.A.in1.handled=none:=I.ok.hd hc
  have hlen:vs.length=ns.length:=by
   have h1:=rel.length
   have h2:=congrArg List.length hk
   rw[length_map,length_map]at h2
   omega
  have hkv:vs.map (·.1)=ns.map Sum.inl:=by rw[<- rW rel]; exact hk
  refine wpAny_call (codeAny_call_builtin plain_sorted entry_sorted (wpAny_of_eq (iA _) ?_))
  show wpAny _ _ (checkCount "sorted" 1 1 1 >>= _) _ _ s
  refine wpAny_bind (wpAny_of_eq (a:=()) (by rfl) ?_)
  refine wpAny_bind (kdu_collect (kdl_dict (knd:=cE X.prog X.w) (kvs:=vs) (ep:=ep) hsm) hh ⟨o,es,dd⟩ (by rw[hlen]; exact le_of_lt (lt_trans hl (by decide))) fun h' tk acc keep hit=>?_)
  have hacc:acc.toList.length=vs.length:=by
   have:=hit.1
   simpa using this
  have hints:IntsAre acc.toList ns:=wM (prog:=X.prog) (w:=X.w) hkv hacc fun j v hv=>hit.2 j v (by simpa using hv)
  refine wpAny_bind (wpAny_newList ?_ (by rw[hacc,hlen]; exact le_of_lt (lt_trans hl (by decide))))
  generalize eh2:h'.push { cls:=.type "list",data:=.seq acc.toList.toArray }=h2
  have g2:h2.get? h'.objs.size=some (seqObj "list" acc.toList.toArray 0):=by
   rw[<- eh2]
   exact get?_push_size _ rfl
  refine wpAny_bind (wpAny_holding ?_)
  refine wpAny_call_entry (T:="list") PyProof.Rows.slot_list_sort ⟨_,g2,rfl⟩ PyProof.Rows.entry_list_sort ?_ (PyProof.Rows.args_list_sort _)
  refine list_sort_tree g2 hints (by rw[hacc,hlen]; exact hl) fun out ms hout perm pw=>?_
  refine⟨_,rfl,wpAny_pure ?_⟩
  obtain⟨ep2,gat⟩:=sortedHeap_at (h:=h2) (a:=h'.objs.size) (vs:=acc.toList) (out:=out) g2
  have hf:H h'.objs.size=none:=(I.kept (t':=tk) keep).hok.fresh (le_refl _)
  refine⟨.ref h'.objs.size,upd H h'.objs.size (.lst (ms.map .int)),(I.kept (t':=tk) keep).laid (t':=tk) (fun b u e=>?_) (le_refl _) ?_,rfl,q _ ms perm pw hf⟩
  ·have hb:b<h'.objs.size:=lt_size e
   have h2s:h2.objs.size=h'.objs.size+1:=by rw[<- eh2]; exact size_push _ _
   rw[sortedHeap_old (ne_of_lt hb) (by rw[h2s]; exact lt_succ_of_lt hb),<- eh2]
   exact get?_push_of_some _ e
  ·refine⟨?_,out.toList,ep2,jH hout,?_⟩
   ·rw[length_map,perm.length_eq]
    exact le_of_lt (lt_trans hl (by decide))
   ·simpa [seqObj] using gat
end
section
variable {X:Cx}
def tLR (ta:TA):TE:=fun σ H Q=>ta σ H fun vs H1=>∃ i j:Int,vs=[.int i,.int j]/\(-(2 ^ 62)<=i/\i<2 ^ 62/\-(2 ^ 62)<=j/\j<2 ^ 62)/\(j - i).toNat<=sizeLine/\∀ p,H1 p=none->Q (.ref p) (upd H1 p (.lst ((List.range (j - i).toNat).map fun k=>.int (i+(k:Nat)))))
theorem Ar {i:Int}:∀ {n:Nat} {us:List Value},us.length=n->(∀ (j:Nat) v,us[j]? = some v->∃ t,v=Value.int (i+(j:Int) * 1) t)->bQ ((List.range n).map fun k=>V.int (i+(k:Nat))) us:=by
 intro n us hl h
 have key:∀ {n:Nat} {us:List Value} {f:Nat->Int},us.length=n->(∀ (j:Nat) v,us[j]? = some v->∃ t,v=Value.int (f j) t)->bQ ((List.range n).map fun k=>V.int (f k)) us:=by
  intro n
  induction n with
  | zero=>
   intro us f hl _
   cases us with
   | nil=>exact .nil
   | cons _ _=>simp at hl
  | succ n ih=>
   intro us f hl h
   cases us with
   | nil=>simp at hl
   | cons u us=>
    rw[range_succ_eq_map,map_cons,map_map]
    obtain⟨t,e⟩:=h 0 u rfl
    exact .cons ⟨t,e⟩ (ih (f:=fun k=>f (k+1)) (by simpa using hl) fun j v hv=>h (j+1) v (by simpa using hv))
 exact key hl fun j v hv=>by
  obtain⟨t,e⟩:=h j v hv
  exact⟨t,by rw[e,Int.mul_one]⟩
theorem BL {a b:Expr} {ta:TA} {p p2 pos pos2:Pos} (hc:X.calm=true) (hgL:Gl X "list") (hmL:X.mg "list" = none) (hg:Gl X "range") (hm:X.mg "range" = none) (ha:PA X [a,b] ta)
  (hs:starEach [a,b] X.env=[(false,eval a X.env),(false,eval b X.env)]:=by rfl) (hs2:starEach [b] X.env=[(false,eval b X.env)]:=by rfl)
  (hs3:starEach [.Call (.Name "range" p2) [a,b] [] pos2] X.env=[(false,eval (.Call (.Name "range" p2) [a,b] [] pos2) X.env)]:=by rfl) :
  PE X (.Call (.Name "list" p) [.Call (.Name "range" p2) [a,b] [] pos2] [] pos) (tLR ta):=by
 intro pins s σ H Q I h
 refine wpAny_Call_Name_kw (nV I hgL hmL boot_list ?_)
 refine PyProof.Rows.callWith_type1 ?_ hs3 rfl
 rw[hs3]
 show wpAny _ _ (spliced ((false,eval (.Call (.Name "range" p2) [a,b] [] pos2) X.env)::[])) _ _ s
 refine Calls.spliced_cons ?_
 refine Call_ (nV I hg hm boot_range (PyProof.Rows.callWith_type1 (thn (ha pos2 pins s σ H _ I h) fun us s1 zQq=>?_) (by rw[hs,hs2]) (by rw[hs2]; rfl)))
 obtain⟨vs,H1,I1,r1,q1⟩:=zQq
 obtain⟨i,j,e,⟨q1,q2,q3,q4⟩,hz,q⟩:=q1
 subst e
 cases r1 with
 | cons r rr=>
  cases rr with
  | cons r' rr=>
   cases rr
   obtain⟨t,rfl⟩:=r
   obtain⟨t',rfl⟩:=r'
   refine call_range_2 ?_
   refine Calls.spliced_nil ?_
   have I2:Inv X pins σ H1 { s1 with heap:=s1.heap.push { cls:=.type "range",data:=.fields #[.int i t,.int j t',.int 1 s1.toks] },toks:=s1.toks+1 }:=I1.kept fun b o e=>get?_push_of_some _ e
   refine call_list_range (n:=(j - i).toNat) (I.ok.hd hc) (IsRange.new ..) (small_one q1 q2 q3 q4) (by rw[rangeSize_one]; split <;> omega) (le_trans hz (by decide)) fun h' tk acc c' kp g' hit=>?_
   refine⟨.ref _,upd H1 _ (.lst ((List.range (j - i).toNat).map fun k=>.int (i+(k:Nat)))),I2.laid (t':=tk) kp (le_refl _) ?_,rfl,q _ (I2.hok.fresh (le_refl _))⟩
   refine⟨by rw[length_map,length_range]; exact hz,acc.toList,c',Ar (by have:=hit.1; simpa using this) fun k v hv=>hit.2 k v (by simpa using hv),?_⟩
   simpa using g'
def rDPop:V->List V->Hp->VK->Prop:=fun x vs H Q=>∃ a kvs k v,x = .ref a/\vs=[kV k]/\H a=some (.dK kvs)/\dS kvs k=some v/\Q v (upd H a (.dK (hJ kvs k)))
theorem yS:MtR X "dict.pop" rDPop:=by
 intro pins s σ H x vs v us Q I rx rv h
 obtain⟨a,kvs,k,y,rfl,rfl,hd,hk,q⟩:=h
 cases (show v=Value.ref a from rx)
 obtain⟨u,rfl,ru⟩:=vS rv
 exact d_pop I hd ru hk (.inl rfl) fun w' s' I' rw'=>⟨y,_,I',rw',q⟩
theorem HL {k:Nat} {C:Addr} {ps:List Str} {sp:Sp} {E:XK} {x:Str} {p pos:Pos} (c:Maker X.prog X.w X.K X.mg X.base x C k ps sp) (hr:Room (k+1) X.A) (hx:fM (CXE X.prog X.w) X E) (hg:Gl X x:=by rfl) (hdb:(x == ("__debug__" : Str))=false:=by decide) :
  PE X (.Call (.Name x p) [] [] pos) (tMk C sp E eQ):=by
 obtain⟨f,fd,F,M,hm,hb⟩:=c.ex
 intro pins s σ H Q I h
 exact Ef M F hr hg hm hb .nil hx hdb pins s σ H Q I (vV h)
def tLT (K:PySem.W.Frag) (ta:TE):TT:=fun σ H Q=>ta σ H fun x H'=>∃ a xs,x = .ref a/\SqL K H' a xs/\Q (!xs.isEmpty) H'
theorem jY (K:PySem.W.Frag) {a:Expr} {ta:TE} (ha:PE X a ta) (he:∀ whole,isTrue a X.env whole=(do let v <- whole; standAt a.pos; holding [v] (truthy v)):=by intro _; rfl) (hK:X.K=K:=by rfl):PT X a (tLT K ta):=by
 subst hK
 intro pins s σ H Q I h
 refine isTrue_plain (thn (ha pins s σ H _ I h) fun v s1 ⟨x,H1,I1,r1,a1,xs,ex,hq,q1⟩=>G4 pins s1 σ H1 x v Q I1 r1 ?_) (he _)
 subst ex
 exact⟨_,.inl ⟨xs,hq,rfl⟩,q1⟩
theorem nT (K:PySem.W.Frag) {T id:String} {name:Str} {r:V->List V->Hp->VK->Prop} {o e:Expr} {es:List Expr} {to:TE} {t:TA} {apos cpos:Pos} (pa:PlainAttrs T) (slot:Slot T name id) (hty:typeOf (.builtin id)=pure (.type "method_descriptor")) (hm:MtR X id r) (ho:PE X o to) (ha:PA X (e::es) t)
  (hbase:attributeBase o name X.env (eval o X.env)=eval o X.env:=by rfl)
  (hfew:((backTo cpos (starEach (e::es) X.env)).all (fun x=>!x.1) && (backToKw cpos (keywordEach [] X.env)).all (fun x=>x.1.isSome)
   && decide ((e::es).length+([]:List Keyword).length+(if ([]:List Keyword).isEmpty then 0 else 1)<30))=true:=by rfl)
  (hline:(apos.endLine == cpos.line)=true:=by rfl) (hs:starEach (e::es) X.env=(false,eval e X.env)::starEach es X.env:=by rfl) (hplain:(backTo cpos (starEach es X.env)).any (·.1)=false:=by rfl) (hK:X.K=K:=by rfl) :
  PE X (.Call (.Attribute o name apos) (e::es) [] cpos) (tBM K T r to t):=by
 subst hK
 exact pe_bm pa slot hty hm ho ha hbase hfew hline hs hplain
end
section
variable {X:Cx}
theorem wL {prog:Program} {w:World} {kvs:List (Key × Value)} {ns:List Str} (hk:kvs.map (·.1)=ns.map Sum.inr):∀ {acc:List Value},acc.length=kvs.length->(∀ (j:Nat) (v:Value),acc[j]? = some v->∃ k x,kvs[j]? = some (k,x)/\(cE prog w).is k v=true)->StrsAre acc ns:=by
 induction kvs generalizing ns with
 | nil=>
  intro acc hl _
  cases ns with
  | nil=>
   cases acc with
   | nil=>exact .nil
   | cons _ _=>simp at hl
  | cons _ _=>simp at hk
 | cons kv kvs ih=>
  intro acc hl h
  cases ns with
  | nil=>simp at hk
  | cons n ns=>
   cases acc with
   | nil=>simp at hl
   | cons v acc=>
    simp only[map_cons,List.cons.injEq]at hk
    obtain⟨k,x,h1,h2⟩:=h 0 v rfl
    have h1:kv=(k,x):=by simpa using h1
    subst h1
    have hk1:k=Sum.inr n:=hk.1
    subst hk1
    obtain⟨t,rfl⟩:∃ t,v = .str n t:=by
     rcases cM (k:=Sum.inr n) (v:=v) h2 with ⟨i,t,e,_⟩ | ⟨y,t,e,e2⟩
     ·cases e
     ·cases e
      exact⟨t,e2⟩
    exact .cons n t (ih hk.2 (by simpa using hl) fun j v hv=>by
     obtain⟨k,x,h1,h2⟩:=h (j+1) v (by simpa using hv)
     exact⟨k,x,by simpa using h1,h2⟩)
theorem pC:∀ {vs:List Value} {ss:List Str},StrsAre vs ss->bQ (ss.map V.str) vs
 | _,_,.nil=>.nil
 | _,_,.cons y t h=>.cons ⟨t,rfl⟩ (pC h)
theorem wK {v₁ v₂ : Value} {rest:List Value} {ss:List Str} (h:StrsAre (v₁ :: v₂ :: rest) ss):keyKind' (v₁ :: v₂ :: rest).toArray=pure oneType':=by
 exact keyKind_strs h
def EO:List V->Hp->VK->Prop:=fun xs H Q=>∃ d kvs ns,xs=[.ref d]/\H d=some (.dK kvs)/\kvs.map (·.1)=ns.map Sum.inr/\ns.length<64/\
 ∀ p ms,List.Perm ms ns->sortedS ms=true->H p=none->Q (.ref p) (upd H p (.lst (ms.map .str)))
theorem zC (hc:X.calm=true):eY X (.builtin "sorted") EO:=by
 intro pins s σ H xs us Q I r h
 obtain⟨d,kvs,ns,rfl,hd,hk,hl,q⟩:=h
 cases r with
 | cons r1 r2=>
  cases r2
  cases (show _=Value.ref d from r1)
  obtain⟨hz,hsm,vs,rel,o,es,ep,dd⟩:=wZ I.hok hd
  have hh:X.A.in1.handled=none:=I.ok.hd hc
  have hlen:vs.length=ns.length:=by
   have h1:=rel.length
   have h2:=congrArg List.length hk
   rw[length_map,length_map]at h2
   omega
  have hkv:vs.map (·.1)=ns.map Sum.inr:=by rw[<- rW rel]; exact hk
  refine wpAny_call (codeAny_call_builtin plain_sorted entry_sorted (wpAny_of_eq (iA _) ?_))
  show wpAny _ _ (checkCount "sorted" 1 1 1 >>= _) _ _ s
  refine wpAny_bind (wpAny_of_eq (a:=()) (by rfl) ?_)
  refine wpAny_bind (kdu_collect (kdl_dict (knd:=cE X.prog X.w) (kvs:=vs) (ep:=ep) hsm) hh ⟨o,es,dd⟩ (by rw[hlen]; exact le_of_lt (lt_trans hl (by decide))) fun h' tk acc keep hit=>?_)
  have hacc:acc.toList.length=vs.length:=by
   have:=hit.1
   simpa using this
  have hstrs:StrsAre acc.toList ns:=wL (prog:=X.prog) (w:=X.w) hkv hacc fun j v hv=>hit.2 j v (by simpa using hv)
  refine wpAny_bind (wpAny_newList ?_ (by rw[hacc,hlen]; exact le_of_lt (lt_trans hl (by decide))))
  generalize eh2:h'.push { cls:=.type "list",data:=.seq acc.toList.toArray }=h2
  have g2:h2.get? h'.objs.size=some (seqObj "list" acc.toList.toArray 0):=by
   rw[<- eh2]
   exact get?_push_size _ rfl
  refine wpAny_bind (wpAny_holding ?_)
  refine wpAny_call_entry (T:="list") PyProof.Rows.slot_list_sort ⟨_,g2,rfl⟩ PyProof.Rows.entry_list_sort ?_ (PyProof.Rows.args_list_sort _)
  refine list_sort_treeK strKind_oneLt g2 hstrs.keysOf (fun v₁ v₂ rest e=>wK (e ▸ hstrs)) (by rw[hacc,hlen]; exact hl) fun st' p1 p2=>?_
  obtain⟨ms,hout,perm,pw⟩:=sorted_out_str hstrs p1 p2
  generalize (arrOf st').map (fun x=>x.snd)=out at hout
  refine⟨_,rfl,wpAny_pure ?_⟩
  obtain⟨ep2,gat⟩:=sortedHeap_at (h:=h2) (a:=h'.objs.size) (vs:=acc.toList) (out:=out) g2
  have hf:H h'.objs.size=none:=(I.kept (t':=tk) keep).hok.fresh (le_refl _)
  refine⟨.ref h'.objs.size,upd H h'.objs.size (.lst (ms.map .str)),(I.kept (t':=tk) keep).laid (t':=tk) (fun b u e=>?_) (le_refl _) ?_,rfl,q _ ms perm pw hf⟩
  ·have hb:b<h'.objs.size:=lt_size e
   have h2s:h2.objs.size=h'.objs.size+1:=by rw[<- eh2]; exact size_push _ _
   rw[sortedHeap_old (ne_of_lt hb) (by rw[h2s]; exact lt_succ_of_lt hb),<- eh2]
   exact get?_push_of_some _ e
  ·refine⟨?_,out.toList,ep2,pC hout,?_⟩
   ·rw[length_map,perm.length_eq]
    exact le_of_lt (lt_trans hl (by decide))
   ·simpa [seqObj] using gat
noncomputable def Its (x:Str):It:=⟨fun i _=>i<x.cps.size,fun i H v H'=>H'=H/\∃ c,x.cps[i]? = some c/\v = .str ⟨#[c]⟩,fun i _=>x.cps.size<=i⟩
theorem Dy {P:Program} {w:World} {K:PySem.W.Frag} {tg:Expr} (x:Str) (t:Tok) (it:Addr) (hx:(x.cps.all fun c=>decide (c<128))=true):Turn P w K tg (Its x) [it] it (fun i h=>h.IsStrIter it "str_ascii_iterator" x t i) where
 mem:=by simp
 obj:=fun i h st b hb=>by
  have e:b=it:=by simpa using hb
  subst e
  obtain⟨o,e,c,d⟩:=st
  exact⟨o,e,fun v z=>by rw[d]at z; cases z⟩
 keep:=fun i h h' st k=>by
  obtain⟨o,e,r⟩:=st
  exact⟨o,k it (by simp) o e,r⟩
 item:=by
  intro X hP hw hK hc i pins s σ H E I hf st hg
  subst hP hw hK
  have hg:i<x.cps.size:=hg
  obtain⟨f0,f1,f2,f3,f4,f5⟩:=hf it (by simp)
  refine wpAny_pyNext_ascii_item st (c:=x.cps[i]) (by simp [hg]) fun h' st' sb=>?_
  have I1:Inv X pins σ H { s with heap:=h',toks:=s.toks+1 }:=I.turned (t':=s.toks+1) (fun b o hb e=>(sb.2 b hb).trans e) f0 f1 f3 f4 f5
  obtain⟨o,e,c,d⟩:=id st'
  exact⟨_,rfl,CY (s:={ s with heap:=h',toks:=s.toks+1 }) e c d (by decide) ⟨.str ⟨#[x.cps[i]]⟩,H,I1,⟨_,rfl⟩,⟨rfl,_,by simp [hg],rfl⟩,st',fun b hb=>(hf b hb).1⟩⟩
 done:=by
  intro X hP hw hK hc i pins s σ H E I hf st hg
  subst hP hw hK
  have hg:x.cps.size<=i:=hg
  obtain⟨f0,f1,f2,f3,f4,f5⟩:=hf it (by simp)
  exact wpAny_pyNext_ascii_end (I.ok.hd hc) st (by simp [hg]) fun h' eb=>⟨rfl,I.turned (t':=s.toks) (fun b o hb e=>eb b o hb e) f0 f1 f3 f4 f5⟩
 self:=fun _ _ _ _ _ st h=>wpAny_pyIter_striter_ascii st h
def iStr (tl:TE):TI:=fun σ H R=>tl σ H fun v H1=>∃ x:Str,v = .str x/\(x.cps.all fun c=>decide (c<128))=true/\R (Its x) H1
theorem HI {tg l:Expr} {tl:TE} (hl:PE X l tl):PI X tg l (iStr tl):=by
 intro pins s σ H R I h
 refine thn (hl pins s σ H _ I h) fun v s1 zQq=>?_
 obtain⟨y,H1,I1,r1,q1⟩:=zQq
 obtain⟨x,e,hx,q⟩:=q1
 subst e
 obtain⟨t,rfl⟩:=r1
 refine wpAny_pyIter_strU ?_
 have ht:strIterType x = "str_ascii_iterator":=by unfold strIterType; rw[if_pos hx]
 rw[ht]
 refine⟨s1.heap.objs.size,[s1.heap.objs.size],_,_,H1,rfl,I1.kept (t':=s1.toks) fun b o e=>get?_push_of_some _ e,Dy x t _ hx,⟨_,get?_push_size _ rfl,rfl,rfl⟩,fun b hb=>?_,q⟩
 have e:b=s1.heap.objs.size:=by simpa using hb
 subst e
 exact I1.fpOk (le_refl _) (I1.hok.fresh (le_refl _))
theorem Fo {H:Hp} (x:Str):Src (Its x) H x.cps.size (fun i v _=>∃ c,x.cps[i]? = some c/\v = .str ⟨#[c]⟩) where
 go:=fun i H' hi s=>hi
 yld:=fun i H' v H'' hi s y=>⟨by rw[y.1]; exact aG.refl _,y.2⟩
 stop:=fun H' s=>le_refl _
end
section
variable {X:Cx} {pins:List (Addr × Obj)} {σ : St} {H:Hp} {s:Shared}
end
section
variable {X:Cx}
end
end L2
end
section
namespace TS
open PySem PyProof.Rows
noncomputable abbrev SM:=StateT SortSt Sem
noncomputable def kk (κ : KeyKind) (p:Keyed):κ.α:=(κ.keyOf p.1).getD κ.dflt
def Ky (κ : KeyKind) (p:Keyed):Prop:=∃ a,κ.keyOf p.1=some a
def Le (κ : KeyKind) (p q:Keyed):Prop:=κ.kle (kk κ p) (kk κ q)
def Lt (κ : KeyKind) (p q:Keyed):Prop:=κ.klt (kk κ p) (kk κ q)
theorem Le.refl {κ : KeyKind} (p:Keyed):Le κ p p:=KeyOrd.kle_refl _
theorem Le.trans {κ : KeyKind} {p q r:Keyed} (h:Le κ p q) (h':Le κ q r):Le κ p r:=KeyOrd.kle_trans h h'
theorem Lt.le {κ : KeyKind} {p q:Keyed} (h:Lt κ p q):Le κ p q:=KeyOrd.kle_of_klt h
theorem Eu {κ : KeyKind} {p q:Keyed} (h:κ.blt (kk κ p) (kk κ q)=false):Le κ q p:=h
def AllK (κ : KeyKind) (xs:Array Keyed):Prop:=∀ (i:Nat) p,xs[i]? = some p->Ky κ p
section
variable {prog:Program} {w:World} {A:Around} {E:Value->Shared->Prop} {s:Shared} {κ : KeyKind}
theorem zI (hO:κ.OneLt) {st:SortSt} {x y:Keyed} {Q:Option Bool->SortSt->Prop} (hk:kindOf st=oneType') (hx:Ky κ x) (hy:Ky κ y) (h:Q (some (κ.blt (kk κ x) (kk κ y))) st):wpS (model prog w) A E s (lt' x y) Q st:=by
 obtain⟨a,ha⟩:=hx
 obtain⟨b,hb⟩:=hy
 have h:Q (some (κ.blt a b)) st:=by
  unfold kk at h
  rw[ha,hb]at h
  exact h
 rw[lt'_eq]
 refine wpS_bind (wpS_get ?_)
 rw[hk,keyLt'_oneType]
 exact wpS_bind (wpS_lift (wpAny_attempt (hO prog w A _ s x.1 y.1 a b ha hb ⟨rfl,wpS_pure h⟩)))
theorem bD {st:SortSt} {xs:Array Keyed} {i:Nat} {p:Keyed} {Q:Keyed->SortSt->Prop} (e:xs[i]? = some p) (h:Q p st):wpS (model prog w) A E s (elem' xs i) Q st:=by
 rw[elem'_eq,e]
 exact wpS_pure h
end
noncomputable def gQ:Bool->Keyed->Array Keyed->Nat->Nat->Nat->SM (Option Nat):=sortPriv% PySem.Builtin.gallop
noncomputable def bey (left:Bool) (key:Keyed) (arr:Array Keyed) (base i:Nat):SM (Option Bool):=do
 let x <- elem' arr (base+i)
 if left then lt' x key else return (<- lt' key x).map (!·)
theorem DY (left:Bool) (key:Keyed) (arr:Array Keyed) (base n hint:Nat):gQ left key arr base n hint=(do
  let mut l:=0; let mut o:=1; let mut u:=0; let mut v:=0
  let some rt <- bey left key arr base hint | return none
  if rt then
   let t:=n - hint
   for _ in [0:n] do
    if o ≥ t then break
    let some r <- bey left key arr base (hint+o) | return none
    if !r then break
    l:=o; o:=2 * o+1
   u:=hint+l+1; v:=hint+min o t
  else
   let t:=hint+1
   for _ in [0:n] do
    if o ≥ t then break
    let some r <- bey left key arr base (hint - o) | return none
    if r then break
    l:=o; o:=2 * o+1
   u:=hint+1 - min o t; v:=hint - l
  for _ in [0:n] do
   if u ≥ v then break
   let m:=u+(v - u) / 2
   let some r <- bey left key arr base m | return none
   if r then u:=m+1 else v:=m
  return some v):=rfl
section
variable {prog:Program} {w:World} {A:Around} {E:Value->Shared->Prop} {s:Shared} {κ : KeyKind}
def Gm (M:Model) (A:Around) (E:Value->Shared->Prop) (s:Shared) (b:Nat->SM (Option Bool)) (n:Nat) (st:SortSt) (B:Nat->Bool):Prop:=∀ i,i<n->∀ Q:Option Bool->SortSt->Prop,Q (some (B i)) st->wpS M A E s (b i) Q st
theorem Fa {b:Nat->SM (Option Bool)} {n lo hi:Nat} {st:SortSt} {B:Nat->Bool} {Q:Option Nat->SortSt->Prop} (ask:Gm (model prog w) A E s b n st B) (mono:∀ i j,i<=j->j<n->B j=true->B i=true) (h1:lo<=hi) (h2:hi<=n) (hlo:∀ i,i<lo->B i=true) (hhi:∀ i,hi<=i->i<n->B i=false)
  (h:∀ k,k<=n->(∀ i,i<k->B i=true)->(∀ i,k<=i->i<n->B i=false)->Q (some k) st):wpS (model prog w) A E s (do
   let mut u:=lo; let mut v:=hi
   for _ in [0:n] do
    if u ≥ v then break
    let m:=u+(v - u) / 2
    let some r <- b m | return none
    if r then u:=m+1 else v:=m
   return some v) Q st:=by
 dsimp only
 refine wpS_bind (wpS_mono (wpS_forRange (I:=fun x c st'=>st'=st/\∃ l r,c=(none,l,r)/\l<=r/\r<=n/\r - l<=n - x/\(∀ i,i<l->B i=true)/\(∀ i,r<=i->i<n->B i=false))
  (Q:=fun c st'=>st'=st/\∃ l,c=(none,l,l)/\l<=n/\(∀ i,i<l->B i=true)/\(∀ i,l<=i->i<n->B i=false)) ?step ?fin ?init) ?post)
 case init=>exact⟨rfl,lo,hi,rfl,h1,h2,by omega,hlo,hhi⟩
 case fin=>
  rintro c st' ⟨rfl,l,r,rfl,a1,a2,a3,a4,a5⟩
  have:l=r:=by omega
  subst this
  exact⟨rfl,l,rfl,a2,a4,a5⟩
 case step=>
  rintro x c st' _ hx ⟨rfl,l,r,rfl,a1,a2,a3,a4,a5⟩
  dsimp only
  by_cases hlr:l ≥ r
  ·rw[if_pos hlr]
   have:l=r:=by omega
   subst this
   exact wpS_pure ⟨rfl,l,rfl,a2,a4,a5⟩
  ·rw[if_neg hlr]
   have hm:l+(r - l) / 2<r:=by omega
   refine wpS_bind (ask _ (by omega) _ ?_)
   cases hb:B (l+(r - l) / 2) with
   | true=>
    dsimp only
    rw[if_pos rfl]
    refine wpS_pure ⟨rfl,_,_,rfl,by omega,a2,by omega,fun i hi=>mono i _ (by omega) (by omega) hb,a5⟩
   | false=>
    dsimp only
    rw[if_neg (by decide)]
    refine wpS_pure ⟨rfl,_,_,rfl,by omega,by omega,by omega,a4,fun i h1 h2=>?_⟩
    cases hi:B i with
    | false=>rfl
    | true=>
     have:=mono _ i h1 h2 hi
     rw[hb]at this
     cases this
 case post=>
  rintro c st' ⟨rfl,l,rfl,a2,a4,a5⟩
  exact wpS_pure (h l a2 a4 a5)
theorem wS {left:Bool} {key:Keyed} {arr:Array Keyed} {base n hint:Nat} {st:SortSt} {B:Nat->Bool} {Q:Option Nat->SortSt->Prop} (ask:Gm (model prog w) A E s (bey left key arr base) n st B) (mono:∀ i j,i<=j->j<n->B j=true->B i=true) (hh:hint<n)
  (h:∀ k,k<=n->(∀ i,i<k->B i=true)->(∀ i,k<=i->i<n->B i=false)->Q (some k) st):wpS (model prog w) A E s (gQ left key arr base n hint) Q st:=by
 have anti:∀ i j,i<=j->j<n->B i=false->B j=false:=fun i j h1 h2 hb=>by
  cases hj:B j with
  | false=>rfl
  | true=>rw[mono i j h1 h2 hj]at hb; cases hb
 rw[DY]
 dsimp only
 refine wpS_bind (ask hint hh _ ?_)
 cases hb:B hint with
 | true=>
  dsimp only
  rw[if_pos rfl]
  refine wpS_bind (wpS_mono (wpS_forRange (I:=fun x c st'=>st'=st/\∃ l r,c=(none,l,r)/\l<r/\x+1<=r/\hint+l<n/\B (hint+l)=true)
   (Q:=fun c st'=>st'=st/\∃ l r,c=(none,l,r)/\l<r/\hint+l<n/\B (hint+l)=true/\(n - hint<=r\/(hint+r<n/\B (hint+r)=false))) ?step ?fin ?init) ?post)
  case init=>exact⟨rfl,0,1,rfl,by omega,by omega,hh,hb⟩
  case fin=>
   rintro c st' ⟨rfl,l,r,rfl,a1,a2,a3,a4⟩
   exact⟨rfl,l,r,rfl,a1,a3,a4,.inl (by omega)⟩
  case step=>
   rintro x c st' _ hx ⟨rfl,l,r,rfl,a1,a2,a3,a4⟩
   dsimp only
   by_cases hr:r ≥ n - hint
   ·rw[if_pos hr]
    exact wpS_pure ⟨rfl,l,r,rfl,a1,a3,a4,.inl hr⟩
   ·rw[if_neg hr]
    refine wpS_bind (ask _ (by omega) _ ?_)
    cases hbr:B (hint+r) with
    | true=>
     dsimp only
     rw[if_neg (by decide)]
     exact wpS_pure ⟨rfl,r,2 * r+1,rfl,by omega,by omega,by omega,hbr⟩
    | false=>
     dsimp only
     rw[if_pos (show (!false)=true from rfl)]
     exact wpS_pure ⟨rfl,l,r,rfl,a1,a3,a4,.inr ⟨by omega,hbr⟩⟩
  case post=>
   rintro c st' ⟨rfl,l,r,rfl,a1,a3,a4,a5⟩
   dsimp only
   refine Fa ask mono ?_ ?_ (fun i hi=>mono i (hint+l) (by omega) a3 a4) (fun i h1 h2=>?_) h
   ·omega
   ·omega
   ·rcases a5 with a5 | ⟨a5,a6⟩
    ·omega
    ·exact anti (hint+r) i (by omega) h2 a6
 | false=>
  dsimp only
  rw[if_neg (by decide)]
  refine wpS_bind (wpS_mono (wpS_forRange (I:=fun x c st'=>st'=st/\∃ l r,c=(none,l,r)/\l<r/\x+1<=r/\l<=hint/\B (hint - l)=false)
   (Q:=fun c st'=>st'=st/\∃ l r,c=(none,l,r)/\l<r/\l<=hint/\B (hint - l)=false/\(hint+1<=r\/(r<=hint/\B (hint - r)=true))) ?step ?fin ?init) ?post)
  case init=>exact⟨rfl,0,1,rfl,by omega,by omega,by omega,hb⟩
  case fin=>
   rintro c st' ⟨rfl,l,r,rfl,a1,a2,a3,a4⟩
   exact⟨rfl,l,r,rfl,a1,a3,a4,.inl (by omega)⟩
  case step=>
   rintro x c st' _ hx ⟨rfl,l,r,rfl,a1,a2,a3,a4⟩
   dsimp only
   by_cases hr:r ≥ hint+1
   ·rw[if_pos hr]
    exact wpS_pure ⟨rfl,l,r,rfl,a1,a3,a4,.inl hr⟩
   ·rw[if_neg hr]
    refine wpS_bind (ask _ (by omega) _ ?_)
    cases hbr:B (hint - r) with
    | false=>
     dsimp only
     rw[if_neg (by decide)]
     exact wpS_pure ⟨rfl,r,2 * r+1,rfl,by omega,by omega,by omega,hbr⟩
    | true=>
     dsimp only
     rw[if_pos rfl]
     exact wpS_pure ⟨rfl,l,r,rfl,a1,a3,a4,.inr ⟨by omega,hbr⟩⟩
  case post=>
   rintro c st' ⟨rfl,l,r,rfl,a1,a3,a4,a5⟩
   dsimp only
   refine Fa ask mono ?_ ?_ (fun i hi=>?_) (fun i h1 h2=>anti (hint - l) i (by omega) h2 a4) h
   ·omega
   ·omega
   ·rcases a5 with a5 | ⟨a5,a6⟩
    ·omega
    ·exact mono i (hint - r) (by omega) (by omega) a6
theorem Dp (hO:κ.OneLt) {key:Keyed} {arr:Array Keyed} {base n:Nat} {st:SortSt} (hk:kindOf st=oneType') (hy:Ky κ key) (ha:AllK κ arr) (hn:base+n<=arr.size):Gm (model prog w) A E s (bey false key arr base) n st (fun i=>match arr[base+i]? with | some x=>!κ.blt (kk κ key) (kk κ x) | none=>false):=by
 intro i hi Q q
 have e:arr[base+i]? = some arr[base+i]:=getElem?_pos arr (base+i) (by omega)
 dsimp only at q
 rw[e]at q
 unfold bey
 refine wpS_bind (bD e ?_)
 rw[if_neg (by decide)]
 refine wpS_bind (zI hO hk hy (ha _ _ e) (wpS_pure q))
theorem Fb (hO:κ.OneLt) {key:Keyed} {arr:Array Keyed} {base n:Nat} {st:SortSt} (hk:kindOf st=oneType') (hy:Ky κ key) (ha:AllK κ arr) (hn:base+n<=arr.size):Gm (model prog w) A E s (bey true key arr base) n st (fun i=>match arr[base+i]? with | some x=>κ.blt (kk κ x) (kk κ key) | none=>false):=by
 intro i hi Q q
 have e:arr[base+i]? = some arr[base+i]:=getElem?_pos arr (base+i) (by omega)
 dsimp only at q
 rw[e]at q
 unfold bey
 refine wpS_bind (bD e ?_)
 rw[if_pos rfl]
 exact zI hO hk (ha _ _ e) hy q
theorem lH (hO:κ.OneLt) {key:Keyed} {arr:Array Keyed} {base n hint:Nat} {st:SortSt} {Q:Option Nat->SortSt->Prop} (hk:kindOf st=oneType') (hy:Ky κ key) (ha:AllK κ arr) (hn:base+n<=arr.size) (hh:hint<n)
  (so:∀ (i j:Nat) p q,i<=j->j<n->arr[base+i]? = some p->arr[base+j]? = some q->Le κ p q)
  (h:∀ k,k<=n->(∀ (i:Nat) p,i<k->arr[base+i]? = some p->Le κ p key)->(∀ (i:Nat) p,k<=i->i<n->arr[base+i]? = some p->Lt κ key p)->Q (some k) st):wpS (model prog w) A E s (gQ false key arr base n hint) Q st:=by
 refine wS (Dp hO hk hy ha hn) (fun i j hij hj hb=>?_) hh fun k hk' h1 h2=>h k hk' (fun i p hi e=>?_) (fun i p hi hi' e=>?_)
 ·have ei:arr[base+i]? = some arr[base+i]:=getElem?_pos arr (base+i) (by omega)
  have ej:arr[base+j]? = some arr[base+j]:=getElem?_pos arr (base+j) (by omega)
  rw[ei]
  rw[ej]at hb
  have hb:κ.blt (kk κ key) (kk κ arr[base+j])=false:=by simpa using hb
  have:κ.blt (kk κ key) (kk κ arr[base+i])=false:=Le.trans (κ:=κ) (so i j _ _ hij hj ei ej) hb
  dsimp only
  rw[this]
  rfl
 ·have:=h1 i hi
  rw[e]at this
  have this:(!κ.blt (kk κ key) (kk κ p))=true:=this
  show κ.blt (kk κ key) (kk κ p)=false
  simpa using this
 ·have:=h2 i hi hi'
  rw[e]at this
  have this:(!κ.blt (kk κ key) (kk κ p))=false:=this
  show κ.blt (kk κ key) (kk κ p)=true
  simpa using this
theorem gZ (hO:κ.OneLt) {key:Keyed} {arr:Array Keyed} {base n hint:Nat} {st:SortSt} {Q:Option Nat->SortSt->Prop} (hk:kindOf st=oneType') (hy:Ky κ key) (ha:AllK κ arr) (hn:base+n<=arr.size) (hh:hint<n)
  (so:∀ (i j:Nat) p q,i<=j->j<n->arr[base+i]? = some p->arr[base+j]? = some q->Le κ p q)
  (h:∀ k,k<=n->(∀ (i:Nat) p,i<k->arr[base+i]? = some p->Lt κ p key)->(∀ (i:Nat) p,k<=i->i<n->arr[base+i]? = some p->Le κ key p)->Q (some k) st):wpS (model prog w) A E s (gQ true key arr base n hint) Q st:=by
 refine wS (Fb hO hk hy ha hn) (fun i j hij hj hb=>?_) hh fun k hk' h1 h2=>h k hk' (fun i p hi e=>?_) (fun i p hi hi' e=>?_)
 ·have ei:arr[base+i]? = some arr[base+i]:=getElem?_pos arr (base+i) (by omega)
  have ej:arr[base+j]? = some arr[base+j]:=getElem?_pos arr (base+j) (by omega)
  rw[ei]
  rw[ej]at hb
  exact KeyOrd.klt_of_kle_of_klt (so i j _ _ hij hj ei ej) hb
 ·have:=h1 i hi
  rw[e]at this
  exact this
 ·have:=h2 i hi hi'
  rw[e]at this
  exact this
end
end TS
end
section
namespace TS
open PySem PyProof.Rows
def cY (st st':SortSt):Prop:=kindOf st'=kindOf st/\arrOf st'=arrOf st/\pendingOf st'=pendingOf st/\failedOf st'=failedOf st
theorem cY.refl (st:SortSt):cY st st:=⟨rfl,rfl,rfl,rfl⟩
theorem cY.trans {a b c:SortSt} (h:cY a b) (h':cY b c):cY a c:=⟨h'.1.trans h.1,h'.2.1.trans h.2.1,h'.2.2.1.trans h.2.2.1,h'.2.2.2.trans h.2.2.2⟩
noncomputable def Cw:Nat->SM Unit:=sortPriv% PySem.Builtin.setMinGallop
noncomputable def uB:Array Keyed->Array Keyed->SM (Array Keyed):=sortPriv% PySem.Builtin.mergeLo
theorem Ft (g:Nat):Cw g=modify fun s=>SortSt.mk' (kindOf s) (arrOf s) (pendingOf s) g (failedOf s):=rfl
theorem Ba (a b:Array Keyed):uB a b=(do
  rule "list.sort.merge-lo"; let tt:=a.size+b.size
  let fin (o:Array Keyed) (i j:Nat):=o++a.extract i a.size++b.extract j b.size
  let las (o:Array Keyed) (i j:Nat):=o++b.extract j b.size++a.extract i a.size
  let mut o:Array Keyed:=#[<- elem' b 0]; let mut i:=0; let mut j:=1
  if j == b.size then return fin o i j
  if i+1 == a.size then return las o i j
  let mut g:=gallopOf (<- get)
  for _ in [0:tt] do
   let mut p:=0; let mut q:=0
   for _ in [0:tt] do
    let some y <- lt' (<- elem' b j) (<- elem' a i) | return fin o i j
    if y then
     o:=o.push (<- elem' b j); j:=j+1; q:=q+1; p:=0
     if j == b.size then return fin o i j
     if q ≥ g then break
    else
     o:=o.push (<- elem' a i); i:=i+1; p:=p+1; q:=0
     if i+1 == a.size then return las o i j
     if p ≥ g then break
   rule "list.sort.gallop"; g:=g+1
   for _ in [0:tt] do
    if g > 1 then g:=g - 1
    Cw g
    let some k <- gQ false (<- elem' b j) a i (a.size - i) 0 | return fin o i j
    p:=k
    if k > 0 then
     o:=o++a.extract i (i+k); i:=i+k
     if i+1 == a.size then return las o i j
     if i == a.size then return fin o i j
    o:=o.push (<- elem' b j); j:=j+1
    if j == b.size then return fin o i j
    let some k <- gQ true (<- elem' a i) b j (b.size - j) 0 | return fin o i j
    q:=k
    if k > 0 then
     o:=o++b.extract j (j+k); j:=j+k
     if j == b.size then return fin o i j
    o:=o.push (<- elem' a i); i:=i+1
    if i+1 == a.size then return las o i j
    if p<7 && q<7 then break
   g:=g+1; Cw g
  unsupported "internal:list.sort.merge-bound"):=rfl
structure Mid (κ : KeyKind) (a b o:Array Keyed) (i j:Nat):Prop where
 la:i<=a.size
 lb:j<=b.size
 perm:o.toList.Perm (a.toList.take i++b.toList.take j)
 so:o.toList.Pairwise (Le κ)
 ua:∀ p∈o.toList,∀ (n:Nat) q,i<=n->a[n]? = some q->Le κ p q
 ub:∀ p∈o.toList,∀ (n:Nat) q,j<=n->b[n]? = some q->Le κ p q
def mJ (κ : KeyKind) (a b r:Array Keyed):Prop:=r.toList.Perm (a.toList++b.toList)/\r.toList.Pairwise (Le κ)
theorem pD {xs:Array Keyed} {i:Nat} {p:Keyed} (e:xs[i]? = some p):xs.toList.take (i+1)=xs.toList.take i++[p]:=by
 rw[List.take_add_one,getElem?_toList,e]
 rfl
theorem dO {xs:Array Keyed} {i:Nat} {p:Keyed} (e:xs[i]? = some p):i<xs.size:=by
 rcases Nat.lt_or_ge i xs.size with h | h
 ·exact h
 ·rw[Array.getElem?_eq_none h]at e; cases e
theorem bA {xs:Array Keyed} {i:Nat} (h:i<xs.size):∃ p,xs[i]? = some p:=⟨_,getElem?_pos xs i h⟩
section
variable {κ : KeyKind} {a b o:Array Keyed} {i j:Nat}
theorem Mid.pa (m:Mid κ a b o i j) {p:Keyed} (e:a[i]? = some p) (sa:∀ (m n:Nat) p q,m<=n->a[m]? = some p->a[n]? = some q->Le κ p q) (h:∀ (n:Nat) q,j<=n->b[n]? = some q->Le κ p q):Mid κ a b (o.push p) (i+1) j where
 la:=dO e
 lb:=m.lb
 perm:=by
  rw[toList_push,pD e,append_assoc]
  refine(m.perm.append_right [p]).trans ?_
  rw[append_assoc]
  exact List.Perm.append_left _ List.perm_append_comm
 so:=by
  rw[toList_push,pairwise_append]
  exact⟨m.so,pairwise_singleton _ _,fun x hx y hy=>by rw[mem_singleton.mp hy]; exact m.ua x hx i p (le_refl _) e⟩
 ua:=fun x hx n q hn eq=>by
  rw[toList_push,mem_append]at hx
  rcases hx with hx | hx
  ·exact m.ua x hx n q (by omega) eq
  ·rw[mem_singleton.mp hx]
   exact sa i n p q (by omega) e eq
 ub:=fun x hx n q hn eq=>by
  rw[toList_push,mem_append]at hx
  rcases hx with hx | hx
  ·exact m.ub x hx n q hn eq
  ·rw[mem_singleton.mp hx]
   exact h n q hn eq
theorem Mid.pb (m:Mid κ a b o i j) {p:Keyed} (e:b[j]? = some p) (sb:∀ (m n:Nat) p q,m<=n->b[m]? = some p->b[n]? = some q->Le κ p q) (h:∀ (n:Nat) q,i<=n->a[n]? = some q->Le κ p q):Mid κ a b (o.push p) i (j+1) where
 la:=m.la
 lb:=dO e
 perm:=by
  rw[toList_push,pD e,<- append_assoc]
  exact m.perm.append_right [p]
 so:=by
  rw[toList_push,pairwise_append]
  exact⟨m.so,pairwise_singleton _ _,fun x hx y hy=>by rw[mem_singleton.mp hy]; exact m.ub x hx j p (le_refl _) e⟩
 ua:=fun x hx n q hn eq=>by
  rw[toList_push,mem_append]at hx
  rcases hx with hx | hx
  ·exact m.ua x hx n q hn eq
  ·rw[mem_singleton.mp hx]
   exact h n q hn eq
 ub:=fun x hx n q hn eq=>by
  rw[toList_push,mem_append]at hx
  rcases hx with hx | hx
  ·exact m.ub x hx n q (by omega) eq
  ·rw[mem_singleton.mp hx]
   exact sb j n p q (by omega) e eq
theorem AX {xs:Array Keyed} {i k:Nat} {p:Keyed} (h:i<=k) (e:xs[k]? = some p):xs.extract i (k+1)=(xs.extract i k).push p:=by
 have hk:=dO e
 have ep:xs[k]=p:=by
  rw[getElem?_pos xs k hk]at e
  exact Option.some.inj e
 rw[<- ep]
 exact(Array.push_extract_getElem hk).symm ▸ (by rw[min_eq_left h])
theorem Mid.as (sa:∀ (m n:Nat) p q,m<=n->a[m]? = some p->a[n]? = some q->Le κ p q):∀ {k:Nat},i<=k->k<=a.size->Mid κ a b o i j->(∀ (n:Nat) p,i<=n->n<k->a[n]? = some p->∀ (n':Nat) q,j<=n'->b[n']? = some q->Le κ p q)->Mid κ a b (o++a.extract i k) k j:=by
 intro k hik
 induction hik with
 | refl=>
  intro _ m _
  have:a.extract i i = #[]:=by simp; omega
  rw[this,Array.append_empty]
  exact m
 | @step k hk ih=>
  intro hks m h
  obtain⟨p,e⟩:=bA (show k<a.size from hks)
  rw[AX hk e,<- Array.push_append]
  exact(ih (by omega) m fun n p h1 h2=>h n p h1 (by omega)).pa e sa (h k p hk (by omega) e)
theorem Mid.bs (sb:∀ (m n:Nat) p q,m<=n->b[m]? = some p->b[n]? = some q->Le κ p q):∀ {k:Nat},j<=k->k<=b.size->Mid κ a b o i j->(∀ (n:Nat) p,j<=n->n<k->b[n]? = some p->∀ (n':Nat) q,i<=n'->a[n']? = some q->Le κ p q)->Mid κ a b (o++b.extract j k) i k:=by
 intro k hik
 induction hik with
 | refl=>
  intro _ m _
  have:b.extract j j = #[]:=by simp; omega
  rw[this,Array.append_empty]
  exact m
 | @step k hk ih=>
  intro hks m h
  obtain⟨p,e⟩:=bA (show k<b.size from hks)
  rw[AX hk e,<- Array.push_append]
  exact(ih (by omega) m fun n p h1 h2=>h n p h1 (by omega)).pb e sb (h k p hk (by omega) e)
theorem Mid.good (m:Mid κ a b o a.size b.size):mJ κ a b o:=by
 refine⟨?_,m.so⟩
 have:=m.perm
 rw[List.take_of_length_le (by simp),List.take_of_length_le (by simp)]at this
 exact this
structure Two (κ : KeyKind) (a b:Array Keyed):Prop where
 ka:AllK κ a
 kb:AllK κ b
 sa:∀ (m n:Nat) p q,m<=n->a[m]? = some p->a[n]? = some q->Le κ p q
 sb:∀ (m n:Nat) p q,m<=n->b[m]? = some p->b[n]? = some q->Le κ p q
 a0:0<a.size
 b0:0<b.size
 fst:∀ p q,a[0]? = some p->b[0]? = some q->Le κ q p
 lst:∀ p q,a[a.size - 1]? = some p->b[b.size - 1]? = some q->Le κ q p
theorem Mid.finB (T:Two κ a b) (m:Mid κ a b o i b.size):mJ κ a b (o++a.extract i a.size++b.extract b.size b.size):=by
 have h1:=m.as T.sa m.la (le_refl _) (fun n p _ _ _ n' q hn e=>by have:=dO e; omega)
 exact(h1.bs T.sb (le_refl _) (le_refl _) (fun n p h1 h2=>by omega)).good
theorem Mid.finA (T:Two κ a b) (m:Mid κ a b o a.size j):mJ κ a b (o++a.extract a.size a.size++b.extract j b.size):=by
 have h1:=m.as T.sa (le_refl _) (le_refl _) (fun n p h1 h2=>by omega)
 exact(h1.bs T.sb m.lb (le_refl _) (fun n p _ _ _ n' q hn e=>by have:=dO e; omega)).good
theorem Mid.las (T:Two κ a b) (m:Mid κ a b o i j) (hi:i+1=a.size):mJ κ a b (o++b.extract j b.size++a.extract i a.size):=by
 have h1:=m.bs T.sb m.lb (le_refl _) (fun n p _ hn e n' q hn' e'=>by
  have:=dO e'
  obtain⟨z,ez⟩:=bA (show b.size - 1<b.size by have:=T.b0; omega)
  have hz:n'=a.size - 1:=by omega
  rw[hz]at e'
  exact(T.sb n (b.size - 1) p z (by omega) e ez).trans (T.lst q z e' ez))
 exact(h1.as T.sa m.la (le_refl _) (fun n p _ _ _ n' q hn e=>by have:=dO e; omega)).good
end
section
variable {prog:Program} {w:World} {A:Around} {E:Value->Shared->Prop} {s:Shared} {κ : KeyKind} {a b:Array Keyed}
theorem rQ {st:SortSt} {g:Nat} {Q:Unit->SortSt->Prop} (h:∀ st',cY st st'->Q () st'):wpS (model prog w) A E s (Cw g) Q st:=by
 rw[Ft]
 exact wpS_modify (h _ ⟨rfl,rfl,rfl,rfl⟩)
theorem bV {m n:Nat} (h:¬ m=n):¬ (m == n)=true:=by simpa using h
theorem bM {m n:Nat} (h:m=n):(m == n)=true:=by simpa using h
theorem B3 {α : Type} {F:Nat->_} {T:Nat->_} {Q:α->SortSt->Prop} {st:SortSt} (h:∀ g,wpS (model prog w) A E s (F g) Q st) (hx:∀ g,T g=F (g - 1)):∀ g,wpS (model prog w) A E s (if g > 1 then T g else F g) Q st:=by
 intro g
 split
 ·rw[hx]
  exact h _
 ·exact h _
theorem BZ (hO:κ.OneLt) (T:Two κ a b) {st:SortSt} (hk:kindOf st=oneType') {Q:Array Keyed->SortSt->Prop} (h:∀ r st',cY st st'->mJ κ a b r->Q r st'):wpS (model prog w) A E s (uB a b) Q st:=by
 rw[Ba]
 refine wpS_bind (wpS_lift (wpAny_rule ⟨rfl,?_⟩))
 dsimp only
 obtain⟨b1,eb1⟩:=bA T.b0
 refine wpS_bind (bD eb1 ?_)
 have m0:Mid κ a b #[b1] 0 1:=by
  refine⟨zero_le _,T.b0,?_,pairwise_singleton _ _,fun p hp n q hn e=>?_,fun p hp n q hn e=>?_⟩
  ·rw[pD (i:=0) eb1]
   exact List.Perm.refl _
  ·have hp:p=b1:=by simpa using hp
   rw[hp]
   obtain⟨a1,ea1⟩:=bA T.a0
   exact(T.fst a1 b1 ea1 eb1).trans (T.sa 0 n a1 q (by omega) ea1 e)
  ·have hp:p=b1:=by simpa using hp
   rw[hp]
   exact T.sb 0 n b1 q (by omega) eb1 e
 by_cases h1:1=b.size
 ·rw[if_pos (bM h1)]
  refine wpS_pure (h _ _ (cY.refl _) ?_)
  rw[h1]at m0 ⊢
  exact m0.finB T
 rw[if_neg (bV h1)]
 by_cases h2:0+1=a.size
 ·rw[if_pos (bM h2)]
  exact wpS_pure (h _ _ (cY.refl _) (m0.las T h2))
 rw[if_neg (bV h2)]
 refine wpS_bind (wpS_get ?_)
 have a1:=T.a0
 have b1':=T.b0
 refine wpS_bind (wpS_mono (wpS_forRange (I:=fun x c st'=>cY st st'/\∃ o i j g,c=(none,o,i,j,g)/\Mid κ a b o i j/\i+1<a.size/\j<b.size/\x<=i+j)
  (Q:=fun c st'=>cY st st'/\∃ r o,c=(some r,o)/\mJ κ a b r) ?step ?fin ⟨cY.refl _,_,_,_,_,rfl,m0,by omega,by omega,by omega⟩) ?post)
 case fin=>
  rintro c st' ⟨_,o,i,j,g,_,_,h3,h4,h5⟩
  omega
 case post=>
  rintro c st' ⟨ss,r,o,rfl,g⟩
  exact wpS_pure (h r st' ss g)
 case step=>
  rintro x c st' _ hx ⟨ss,o,i,j,g,rfl,m,h3,h4,h5⟩
  dsimp only
  refine wpS_bind (wpS_mono (wpS_forRange (I:=fun y c st'=>cY st st'/\∃ o i j p q,c=(none,o,i,j,p,q)/\Mid κ a b o i j/\i+1<a.size/\j<b.size/\x+y<=i+j)
   (Q:=fun c st'=>cY st st'/\((∃ r o,c=(some r,o)/\mJ κ a b r)\/∃ o i j p q,c=(none,o,i,j,p,q)/\Mid κ a b o i j/\i+1<a.size/\j<b.size/\x+1<=i+j)) ?step1 ?fin1 ⟨ss,_,_,_,_,_,rfl,m,h3,h4,by omega⟩) ?post1)
  case fin1=>
   rintro c st' ⟨ss,o,i,j,p,q,rfl,m,h3,h4,h5⟩
   exact⟨ss,.inr ⟨o,i,j,p,q,rfl,m,h3,h4,by omega⟩⟩
  case step1=>
   rintro y c st' _ hy ⟨ss,o,i,j,p,q,rfl,m,h3,h4,h5⟩
   dsimp only
   obtain⟨pa,ea⟩:=bA (show i<a.size by omega)
   obtain⟨pb,eb⟩:=bA h4
   refine wpS_bind (bD eb (wpS_bind (bD ea (wpS_bind (zI hO (ss.1.trans hk) (T.kb _ _ eb) (T.ka _ _ ea) ?_)))))
   cases hb:κ.blt (kk κ pb) (kk κ pa) with
   | true=>
    dsimp only
    rw[if_pos rfl]
    refine wpS_bind (bD eb ?_)
    have m':=m.pb eb T.sb (fun n q hn e=>Le.trans (Lt.le (κ:=κ) hb) (T.sa i n pa q hn ea e))
    by_cases h6:j+1=b.size
    ·rw[if_pos (bM h6)]
     refine wpS_pure ⟨ss,.inl ⟨_,_,rfl,?_⟩⟩
     rw[h6]at m' ⊢
     exact m'.finB T
    ·rw[if_neg (bV h6)]
     split
     ·exact wpS_pure ⟨ss,.inr ⟨_,_,_,_,_,rfl,m',h3,by omega,by omega⟩⟩
     ·exact wpS_pure ⟨ss,_,_,_,_,_,rfl,m',h3,by omega,by omega⟩
   | false=>
    dsimp only
    rw[if_neg (by decide)]
    refine wpS_bind (bD ea ?_)
    have m':=m.pa ea T.sa (fun n q hn e=>Le.trans (κ:=κ) (Eu hb) (T.sb j n pb q hn eb e))
    by_cases h6:i+1+1=a.size
    ·rw[if_pos (bM h6)]
     exact wpS_pure ⟨ss,.inl ⟨_,_,rfl,m'.las T h6⟩⟩
    ·rw[if_neg (bV h6)]
     split
     ·exact wpS_pure ⟨ss,.inr ⟨_,_,_,_,_,rfl,m',by omega,h4,by omega⟩⟩
     ·exact wpS_pure ⟨ss,_,_,_,_,_,rfl,m',by omega,h4,by omega⟩
  case post1=>
   rintro c st' ⟨ss,⟨r,o,rfl,gd⟩ | ⟨o,i,j,p,q,rfl,m,h3,h4,h5⟩⟩
   ·exact wpS_pure ⟨ss,r,_,rfl,gd⟩
   dsimp only
   refine wpS_bind (wpS_lift (wpAny_rule ⟨rfl,?_⟩))
   refine wpS_bind (wpS_mono (wpS_forRange (I:=fun y c st'=>cY st st'/\∃ o i j g p q,c=(none,o,i,j,g,p,q)/\Mid κ a b o i j/\i+1<a.size/\j<b.size/\x+1<=i+j)
    (Q:=fun c st'=>cY st st'/\((∃ r o,c=(some r,o)/\mJ κ a b r)\/∃ o i j g p q,c=(none,o,i,j,g,p,q)/\Mid κ a b o i j/\i+1<a.size/\j<b.size/\x+1<=i+j)) ?step2 ?fin2 ⟨ss,_,_,_,_,_,_,rfl,m,h3,h4,by omega⟩) ?post2)
   case fin2=>
    rintro c st' ⟨ss,o,i,j,g,p,q,rfl,m,h3,h4,h5⟩
    exact⟨ss,.inr ⟨o,i,j,g,p,q,rfl,m,h3,h4,by omega⟩⟩
   case post2=>
    rintro c st' ⟨ss,⟨r,o,rfl,gd⟩ | ⟨o,i,j,g,p,q,rfl,m,h3,h4,h5⟩⟩
    ·exact wpS_pure ⟨ss,r,_,rfl,gd⟩
    dsimp only
    exact wpS_bind (rQ fun st2 s2=>wpS_pure ⟨ss.trans s2,_,_,_,_,rfl,m,h3,h4,h5⟩)
   case step2=>
    rintro y c st' _ hy ⟨ss,o,i,j,g,p,q,rfl,m,h3,h4,h5⟩
    dsimp only
    revert g
    refine B3 (fun g=>?_) (fun _=>rfl)
    all_goals
     refine wpS_bind (rQ fun st2 s2=>?_)
     have ss2:=ss.trans s2
     obtain⟨pb,eb⟩:=bA h4
     refine wpS_bind (bD eb (wpS_bind (lH hO (ss2.1.trans hk) (T.kb _ _ eb) T.ka (by omega) (by omega) (fun m n p q hmn _ e1 e2=>T.sa _ _ p q (by omega) e1 e2) fun k hk1 g1 g2=>?_)))
     dsimp only
     have g2':∀ (n:Nat) q,i+k<=n->a[n]? = some q->Le κ pb q:=fun n q hn e=>Lt.le (g2 (n - i) q (by omega) (by have:=dO e; omega) (by rw[show i+(n - i)=n by omega]; exact e))
     by_cases hk0:k > 0
     ·rw[if_pos hk0]
      have m1:=m.as T.sa (k:=i+k) (by omega) (by omega) (fun n p h1 h2 e n' q hn e'=>(g1 (n - i) p (by omega) (by rw[show i+(n - i)=n by omega]; exact e)).trans (T.sb _ _ pb q hn eb e'))
      by_cases h6:i+k+1=a.size
      ·rw[if_pos (bM h6)]
       exact wpS_pure ⟨ss2,.inl ⟨_,_,rfl,m1.las T h6⟩⟩
      rw[if_neg (bV h6)]
      by_cases h7:i+k=a.size
      ·rw[if_pos (bM h7)]
       refine wpS_pure ⟨ss2,.inl ⟨_,_,rfl,?_⟩⟩
       rw[h7]at m1 ⊢
       exact m1.finA T
      rw[if_neg (bV h7)]
      refine wpS_bind (bD eb ?_)
      have m2:=m1.pb eb T.sb g2'
      by_cases h8:j+1=b.size
      ·rw[if_pos (bM h8)]
       refine wpS_pure ⟨ss2,.inl ⟨_,_,rfl,?_⟩⟩
       rw[h8]at m2 ⊢
       exact m2.finB T
      rw[if_neg (bV h8)]
      obtain⟨pa,ea⟩:=bA (show i+k<a.size by omega)
      refine wpS_bind (bD ea (wpS_bind (gZ hO (ss2.1.trans hk) (T.ka _ _ ea) T.kb (by omega) (by omega) (fun m n p q hmn _ e1 e2=>T.sb _ _ p q (by omega) e1 e2) fun k2 hk2 g3 g4=>?_)))
      dsimp only
      have g4':∀ (n:Nat) q,j+1+k2<=n->b[n]? = some q->Le κ pa q:=fun n q hn e=>g4 (n - (j+1)) q (by omega) (by have:=dO e; omega) (by rw[show j+1+(n - (j+1))=n by omega]; exact e)
      by_cases hk3:k2 > 0
      ·rw[if_pos hk3]
       have m3:=m2.bs T.sb (k:=j+1+k2) (by omega) (by omega) (fun n p h1 h2 e n' q hn e'=>(Lt.le (g3 (n - (j+1)) p (by omega) (by rw[show j+1+(n - (j+1))=n by omega]; exact e))).trans (T.sa _ _ pa q hn ea e'))
       by_cases h10:j+1+k2=b.size
       ·rw[if_pos (bM h10)]
        refine wpS_pure ⟨ss2,.inl ⟨_,_,rfl,?_⟩⟩
        rw[h10]at m3 ⊢
        exact m3.finB T
       rw[if_neg (bV h10)]
       refine wpS_bind (bD ea ?_)
       have m4:=m3.pa ea T.sa (fun n q hn e=>g4' n q hn e)
       by_cases h9:i+k+1+1=a.size
       ·rw[if_pos (bM h9)]
        exact wpS_pure ⟨ss2,.inl ⟨_,_,rfl,m4.las T h9⟩⟩
       ·rw[if_neg (bV h9)]
        split
        ·exact wpS_pure ⟨ss2,.inr ⟨_,_,_,_,_,_,rfl,m4,by omega,by omega,by omega⟩⟩
        ·exact wpS_pure ⟨ss2,_,_,_,_,_,_,rfl,m4,by omega,by omega,by omega⟩
      ·rw[if_neg hk3]
       refine wpS_bind (bD ea ?_)
       have m4:=m2.pa ea T.sa (fun n q hn e=>g4' n q (by omega) e)
       by_cases h9:i+k+1+1=a.size
       ·rw[if_pos (bM h9)]
        exact wpS_pure ⟨ss2,.inl ⟨_,_,rfl,m4.las T h9⟩⟩
       ·rw[if_neg (bV h9)]
        split
        ·exact wpS_pure ⟨ss2,.inr ⟨_,_,_,_,_,_,rfl,m4,by omega,by omega,by omega⟩⟩
        ·exact wpS_pure ⟨ss2,_,_,_,_,_,_,rfl,m4,by omega,by omega,by omega⟩
     ·rw[if_neg hk0]
      refine wpS_bind (bD eb ?_)
      have m2:=m.pb eb T.sb (fun n q hn e=>g2' n q (by omega) e)
      by_cases h8:j+1=b.size
      ·rw[if_pos (bM h8)]
       refine wpS_pure ⟨ss2,.inl ⟨_,_,rfl,?_⟩⟩
       rw[h8]at m2 ⊢
       exact m2.finB T
      rw[if_neg (bV h8)]
      obtain⟨pa,ea⟩:=bA (show i<a.size by omega)
      refine wpS_bind (bD ea (wpS_bind (gZ hO (ss2.1.trans hk) (T.ka _ _ ea) T.kb (by omega) (by omega) (fun m n p q hmn _ e1 e2=>T.sb _ _ p q (by omega) e1 e2) fun k2 hk2 g3 g4=>?_)))
      dsimp only
      have g4':∀ (n:Nat) q,j+1+k2<=n->b[n]? = some q->Le κ pa q:=fun n q hn e=>g4 (n - (j+1)) q (by omega) (by have:=dO e; omega) (by rw[show j+1+(n - (j+1))=n by omega]; exact e)
      by_cases hk3:k2 > 0
      ·rw[if_pos hk3]
       have m3:=m2.bs T.sb (k:=j+1+k2) (by omega) (by omega) (fun n p h1 h2 e n' q hn e'=>(Lt.le (g3 (n - (j+1)) p (by omega) (by rw[show j+1+(n - (j+1))=n by omega]; exact e))).trans (T.sa _ _ pa q hn ea e'))
       by_cases h10:j+1+k2=b.size
       ·rw[if_pos (bM h10)]
        refine wpS_pure ⟨ss2,.inl ⟨_,_,rfl,?_⟩⟩
        rw[h10]at m3 ⊢
        exact m3.finB T
       rw[if_neg (bV h10)]
       refine wpS_bind (bD ea ?_)
       have m4:=m3.pa ea T.sa (fun n q hn e=>g4' n q hn e)
       by_cases h9:i+1+1=a.size
       ·rw[if_pos (bM h9)]
        exact wpS_pure ⟨ss2,.inl ⟨_,_,rfl,m4.las T h9⟩⟩
       ·rw[if_neg (bV h9)]
        split
        ·exact wpS_pure ⟨ss2,.inr ⟨_,_,_,_,_,_,rfl,m4,by omega,by omega,by omega⟩⟩
        ·exact wpS_pure ⟨ss2,_,_,_,_,_,_,rfl,m4,by omega,by omega,by omega⟩
      ·rw[if_neg hk3]
       refine wpS_bind (bD ea ?_)
       have m4:=m2.pa ea T.sa (fun n q hn e=>g4' n q (by omega) e)
       by_cases h9:i+1+1=a.size
       ·rw[if_pos (bM h9)]
        exact wpS_pure ⟨ss2,.inl ⟨_,_,rfl,m4.las T h9⟩⟩
       ·rw[if_neg (bV h9)]
        split
        ·exact wpS_pure ⟨ss2,.inr ⟨_,_,_,_,_,_,rfl,m4,by omega,by omega,by omega⟩⟩
        ·exact wpS_pure ⟨ss2,_,_,_,_,_,_,rfl,m4,by omega,by omega,by omega⟩
end
end TS
end
section
namespace TS
open PySem PyProof.Rows
noncomputable def uC:Array Keyed->Array Keyed->SM (Array Keyed):=sortPriv% PySem.Builtin.mergeHi
theorem Bc (a b:Array Keyed):uC a b=(do
  rule "list.sort.merge-hi"; let tt:=a.size+b.size
  let fin (o:Array Keyed) (i j:Nat):=a.extract 0 i++b.extract 0 j++o.reverse
  let fib (o:Array Keyed) (i j:Nat):=b.extract 0 j++a.extract 0 i++o.reverse
  let mut i:=a.size - 1; let mut j:=b.size; let mut o:Array Keyed:=#[<- elem' a i]
  if i == 0 then return fin o i j
  if j == 1 then return fib o i j
  let mut g:=gallopOf (<- get)
  for _ in [0:tt] do
   let mut p:=0; let mut q:=0
   for _ in [0:tt] do
    let some y <- lt' (<- elem' b (j - 1)) (<- elem' a (i - 1)) | return fin o i j
    if y then
     i:=i - 1; o:=o.push (<- elem' a i); p:=p+1; q:=0
     if i == 0 then return fin o i j
     if p ≥ g then break
    else
     j:=j - 1; o:=o.push (<- elem' b j); q:=q+1; p:=0
     if j == 1 then return fib o i j
     if q ≥ g then break
   rule "list.sort.gallop"; g:=g+1
   for _ in [0:tt] do
    if g > 1 then g:=g - 1
    Cw g
    let some t <- gQ false (<- elem' b (j - 1)) a 0 i (i - 1) | return fin o i j
    let k:=i - t; p:=k
    if k > 0 then
     o:=o++(a.extract t i).reverse; i:=t
     if i == 0 then return fin o i j
    j:=j - 1; o:=o.push (<- elem' b j)
    if j == 1 then return fib o i j
    let some t <- gQ true (<- elem' a (i - 1)) b 0 j (j - 1) | return fin o i j
    let k:=j - t; q:=k
    if k > 0 then
     o:=o++(b.extract t j).reverse; j:=t
     if j == 1 then return fib o i j
     if j == 0 then return fin o i j
    i:=i - 1; o:=o.push (<- elem' a i)
    if i == 0 then return fin o i j
    if p<7 && q<7 then break
   g:=g+1; Cw g
  unsupported "internal:list.sort.merge-bound"):=rfl
structure MidR (κ : KeyKind) (a b o:Array Keyed) (i j:Nat):Prop where
 la:i<=a.size
 lb:j<=b.size
 perm:o.toList.Perm (a.toList.drop i++b.toList.drop j)
 so:o.toList.Pairwise (fun p q=>Le κ q p)
 ua:∀ p∈o.toList,∀ (n:Nat) q,n<i->a[n]? = some q->Le κ q p
 ub:∀ p∈o.toList,∀ (n:Nat) q,n<j->b[n]? = some q->Le κ q p
theorem mX {xs:Array Keyed} {i:Nat} {p:Keyed} (e:xs[i]? = some p):xs.toList.drop i=p::xs.toList.drop (i+1):=by
 have h:=dO e
 rw[drop_eq_getElem_cons (by simpa using h)]
 rw[getElem?_pos xs i h]at e
 rw[<- Option.some.inj e]
 rfl
theorem AY {xs:Array Keyed} {k i:Nat} {p:Keyed} (h:k<i) (e:xs[k]? = some p):(xs.extract k i).reverse=((xs.extract (k+1) i).reverse).push p:=by
 have hk:=dO e
 apply Array.toList_inj.mp
 rw[Array.toList_reverse,toList_push,Array.toList_reverse,Array.toList_extract,Array.toList_extract,List.extract_eq_take_drop,List.extract_eq_take_drop,mX e]
 have:i - k=(i - (k+1))+1:=by omega
 rw[this,List.take_succ_cons,List.reverse_cons]
section
variable {κ : KeyKind} {a b o:Array Keyed} {i j:Nat}
theorem MidR.pa (m:MidR κ a b o (i+1) j) {p:Keyed} (e:a[i]? = some p) (sa:∀ (m n:Nat) p q,m<=n->a[m]? = some p->a[n]? = some q->Le κ p q) (h:∀ (n:Nat) q,n<j->b[n]? = some q->Le κ q p):MidR κ a b (o.push p) i j where
 la:=by have:=m.la; omega
 lb:=m.lb
 perm:=by
  rw[toList_push,mX e]
  refine List.perm_append_comm.trans ?_
  exact(m.perm.cons p)
 so:=by
  rw[toList_push,pairwise_append]
  exact⟨m.so,pairwise_singleton _ _,fun x hx y hy=>by rw[mem_singleton.mp hy]; exact m.ua x hx i p (lt_succ_self _) e⟩
 ua:=fun x hx n q hn eq=>by
  rw[toList_push,mem_append]at hx
  rcases hx with hx | hx
  ·exact m.ua x hx n q (by omega) eq
  ·rw[mem_singleton.mp hx]
   exact sa n i q p (by omega) eq e
 ub:=fun x hx n q hn eq=>by
  rw[toList_push,mem_append]at hx
  rcases hx with hx | hx
  ·exact m.ub x hx n q hn eq
  ·rw[mem_singleton.mp hx]
   exact h n q hn eq
theorem MidR.pb (m:MidR κ a b o i (j+1)) {p:Keyed} (e:b[j]? = some p) (sb:∀ (m n:Nat) p q,m<=n->b[m]? = some p->b[n]? = some q->Le κ p q) (h:∀ (n:Nat) q,n<i->a[n]? = some q->Le κ q p):MidR κ a b (o.push p) i j where
 la:=m.la
 lb:=by have:=m.lb; omega
 perm:=by
  rw[toList_push,mX e]
  refine List.perm_append_comm.trans ((m.perm.cons p).trans ?_)
  exact List.perm_middle.symm
 so:=by
  rw[toList_push,pairwise_append]
  exact⟨m.so,pairwise_singleton _ _,fun x hx y hy=>by rw[mem_singleton.mp hy]; exact m.ub x hx j p (lt_succ_self _) e⟩
 ua:=fun x hx n q hn eq=>by
  rw[toList_push,mem_append]at hx
  rcases hx with hx | hx
  ·exact m.ua x hx n q hn eq
  ·rw[mem_singleton.mp hx]
   exact h n q hn eq
 ub:=fun x hx n q hn eq=>by
  rw[toList_push,mem_append]at hx
  rcases hx with hx | hx
  ·exact m.ub x hx n q (by omega) eq
  ·rw[mem_singleton.mp hx]
   exact sb n j q p (by omega) eq e
theorem MidR.as (sa:∀ (m n:Nat) p q,m<=n->a[m]? = some p->a[n]? = some q->Le κ p q):∀ {d k:Nat},k+d=i->MidR κ a b o i j->(∀ (n:Nat) p,k<=n->n<i->a[n]? = some p->∀ (n':Nat) q,n'<j->b[n']? = some q->Le κ q p)->MidR κ a b (o++(a.extract k i).reverse) k j:=by
 intro d
 induction d with
 | zero=>
  intro k hk m _
  have hk:k=i:=by omega
  subst hk
  have:a.extract k k = #[]:=by simp; omega
  rw[this,Array.reverse_empty,Array.append_empty]
  exact m
 | succ d ih=>
  intro k hk m h
  have hl:=m.la
  obtain⟨p,e⟩:=bA (show k<a.size by omega)
  rw[AY (by omega) e,<- Array.push_append]
  exact(ih (by omega) m fun n p h1 h2=>h n p (by omega) h2).pa e sa (h k p (le_refl _) (by omega) e)
theorem MidR.bs (sb:∀ (m n:Nat) p q,m<=n->b[m]? = some p->b[n]? = some q->Le κ p q):∀ {d k:Nat},k+d=j->MidR κ a b o i j->(∀ (n:Nat) p,k<=n->n<j->b[n]? = some p->∀ (n':Nat) q,n'<i->a[n']? = some q->Le κ q p)->MidR κ a b (o++(b.extract k j).reverse) i k:=by
 intro d
 induction d with
 | zero=>
  intro k hk m _
  have hk:k=j:=by omega
  subst hk
  have:b.extract k k = #[]:=by simp; omega
  rw[this,Array.reverse_empty,Array.append_empty]
  exact m
 | succ d ih=>
  intro k hk m h
  have hl:=m.lb
  obtain⟨p,e⟩:=bA (show k<b.size by omega)
  rw[AY (by omega) e,<- Array.push_append]
  exact(ih (by omega) m fun n p h1 h2=>h n p (by omega) h2).pb e sb (h k p (le_refl _) (by omega) e)
theorem MidR.good (m:MidR κ a b o 0 0):mJ κ a b o.reverse:=by
 refine⟨?_,?_⟩
 ·rw[Array.toList_reverse]
  exact(List.reverse_perm _).trans m.perm
 ·rw[Array.toList_reverse,List.pairwise_reverse]
  exact m.so
theorem yE {x y z:Array Keyed}:(x++y.reverse++z.reverse).reverse=z++y++x.reverse:=by
 apply Array.toList_inj.mp
 simp
theorem Cb {xs:Array Keyed}:xs.extract 0 0 = #[]:=by simp
theorem MidR.finA (T:Two κ a b) (m:MidR κ a b o 0 j):mJ κ a b (a.extract 0 0++b.extract 0 j++o.reverse):=by
 have h1:=m.as T.sa (k:=0) (d:=0) rfl (fun n p h1 h2=>by omega)
 have h2:=(h1.bs T.sb (k:=0) (d:=j) (by omega) (fun n p h1 h2 e n' q hn=>by omega)).good
 rw[yE]at h2
 rw[Cb]at h2 ⊢
 simpa using h2
theorem MidR.finB (T:Two κ a b) (m:MidR κ a b o i 0):mJ κ a b (a.extract 0 i++b.extract 0 0++o.reverse):=by
 have h1:=m.as T.sa (k:=0) (d:=i) (by omega) (fun n p h1 h2 e n' q hn=>by omega)
 have h2:=(h1.bs T.sb (k:=0) (d:=0) rfl (fun n p h1 h2=>by omega)).good
 rw[yE]at h2
 rw[Cb]at h2 ⊢
 simpa using h2
theorem MidR.fib (T:Two κ a b) (m:MidR κ a b o i 1):mJ κ a b (b.extract 0 1++a.extract 0 i++o.reverse):=by
 have h1:=m.as T.sa (k:=0) (d:=i) (by omega) (fun n p h1 h2 e n' q hn e'=>by
  have hz:n'=0:=by omega
  rw[hz]at e'
  obtain⟨z,ez⟩:=bA T.a0
  exact(T.fst z q ez e').trans (T.sa 0 n z p (by omega) ez e))
 have h2:=(h1.bs T.sb (k:=0) (d:=1) rfl (fun n p h1 h2 e n' q hn=>by omega)).good
 rw[yE]at h2
 exact h2
end
section
variable {prog:Program} {w:World} {A:Around} {E:Value->Shared->Prop} {s:Shared} {κ : KeyKind} {a b:Array Keyed}
theorem Ab {n:Nat} (h:0<n):∃ m,n=m+1:=⟨n - 1,by omega⟩
theorem Bb (hO:κ.OneLt) (T:Two κ a b) {st:SortSt} (hk:kindOf st=oneType') {Q:Array Keyed->SortSt->Prop} (h:∀ r st',cY st st'->mJ κ a b r->Q r st'):wpS (model prog w) A E s (uC a b) Q st:=by
 rw[Bc]
 refine wpS_bind (wpS_lift (wpAny_rule ⟨rfl,?_⟩))
 dsimp only
 have a1:=T.a0
 have b1:=T.b0
 obtain⟨pl,el⟩:=bA (show a.size - 1<a.size by omega)
 obtain⟨pm,em⟩:=bA (show b.size - 1<b.size by omega)
 refine wpS_bind (bD el ?_)
 have m0:MidR κ a b #[pl] (a.size - 1) b.size:=by
  refine⟨by omega,le_refl _,?_,pairwise_singleton _ _,fun p hp n q hn e=>?_,fun p hp n q hn e=>?_⟩
  ·rw[mX el,drop_of_length_le (by simp; omega),drop_of_length_le (by simp)]
   exact List.Perm.refl _
  ·have hp:p=pl:=by simpa using hp
   rw[hp]
   exact T.sa n (a.size - 1) q pl (by omega) e el
  ·have hp:p=pl:=by simpa using hp
   rw[hp]
   exact(T.sb n (b.size - 1) q pm (by omega) e em).trans (T.lst pl pm el em)
 by_cases h1:a.size - 1=0
 ·rw[if_pos (bM h1)]
  refine wpS_pure (h _ _ (cY.refl _) ?_)
  rw[h1]at m0 ⊢
  exact m0.finA T
 rw[if_neg (bV h1)]
 by_cases h2:b.size=1
 ·rw[if_pos (bM h2)]
  refine wpS_pure (h _ _ (cY.refl _) ?_)
  rw[h2]at m0 ⊢
  exact m0.fib T
 rw[if_neg (bV h2)]
 refine wpS_bind (wpS_get ?_)
 refine wpS_bind (wpS_mono (wpS_forRange (I:=fun x c st'=>cY st st'/\∃ i j o g,c=(none,i,j,o,g)/\MidR κ a b o i j/\0<i/\1<j/\x<=(a.size - i)+(b.size - j))
  (Q:=fun c st'=>cY st st'/\∃ r o,c=(some r,o)/\mJ κ a b r) ?step ?fin ⟨cY.refl _,_,_,_,_,rfl,m0,by omega,by omega,by omega⟩) ?post)
 case fin=>
  rintro c st' ⟨_,i,j,o,g,_,m,h3,h4,h5⟩
  have:=m.la
  have:=m.lb
  omega
 case post=>
  rintro c st' ⟨ss,r,o,rfl,g⟩
  exact wpS_pure (h r st' ss g)
 case step=>
  rintro x c st' _ hx ⟨ss,i,j,o,g,rfl,m,h3,h4,h5⟩
  dsimp only
  refine wpS_bind (wpS_mono (wpS_forRange (I:=fun y c st'=>cY st st'/\∃ i j o p q,c=(none,i,j,o,p,q)/\MidR κ a b o i j/\0<i/\1<j/\x+y<=(a.size - i)+(b.size - j))
   (Q:=fun c st'=>cY st st'/\((∃ r o,c=(some r,o)/\mJ κ a b r)\/∃ i j o p q,c=(none,i,j,o,p,q)/\MidR κ a b o i j/\0<i/\1<j/\x+1<=(a.size - i)+(b.size - j))) ?step1 ?fin1 ⟨ss,_,_,_,_,_,rfl,m,h3,h4,by omega⟩) ?post1)
  case fin1=>
   rintro c st' ⟨ss,i,j,o,p,q,rfl,m,h3,h4,h5⟩
   exact⟨ss,.inr ⟨i,j,o,p,q,rfl,m,h3,h4,by omega⟩⟩
  case step1=>
   rintro y c st' _ hy ⟨ss,i,j,o,p,q,rfl,m,h3,h4,h5⟩
   dsimp only
   have hla:=m.la
   have hlb:=m.lb
   obtain⟨i,rfl⟩:=Ab h3
   obtain⟨j,rfl⟩:=Ab (show 0<j by omega)
   simp only[Nat.add_sub_cancel]
   obtain⟨pa,ea⟩:=bA (show i<a.size by omega)
   obtain⟨pb,eb⟩:=bA (show j<b.size by omega)
   refine wpS_bind (bD eb (wpS_bind (bD ea (wpS_bind (zI hO (ss.1.trans hk) (T.kb _ _ eb) (T.ka _ _ ea) ?_)))))
   cases hb:κ.blt (kk κ pb) (kk κ pa) with
   | true=>
    dsimp only
    rw[if_pos rfl]
    refine wpS_bind (bD ea ?_)
    have m':=m.pa ea T.sa (fun n q hn e=>Le.trans (T.sb n j q pb (by omega) e eb) (Lt.le (κ:=κ) hb))
    by_cases h6:i=0
    ·rw[if_pos (bM h6)]
     refine wpS_pure ⟨ss,.inl ⟨_,_,rfl,?_⟩⟩
     rw[h6]at m' ⊢
     exact m'.finA T
    ·rw[if_neg (bV h6)]
     split
     ·exact wpS_pure ⟨ss,.inr ⟨_,_,_,_,_,rfl,m',by omega,h4,by omega⟩⟩
     ·exact wpS_pure ⟨ss,_,_,_,_,_,rfl,m',by omega,h4,by omega⟩
   | false=>
    dsimp only
    rw[if_neg (by decide)]
    refine wpS_bind (bD eb ?_)
    have m':=m.pb eb T.sb (fun n q hn e=>Le.trans (T.sa n i q pa (by omega) e ea) (Eu (κ:=κ) hb))
    by_cases h6:j=1
    ·rw[if_pos (bM h6)]
     refine wpS_pure ⟨ss,.inl ⟨_,_,rfl,?_⟩⟩
     rw[h6]at m' ⊢
     exact m'.fib T
    ·rw[if_neg (bV h6)]
     split
     ·exact wpS_pure ⟨ss,.inr ⟨_,_,_,_,_,rfl,m',by omega,by omega,by omega⟩⟩
     ·exact wpS_pure ⟨ss,_,_,_,_,_,rfl,m',by omega,by omega,by omega⟩
  case post1=>
   rintro c st' ⟨ss,⟨r,o,rfl,gd⟩ | ⟨i,j,o,p,q,rfl,m,h3,h4,h5⟩⟩
   ·exact wpS_pure ⟨ss,r,_,rfl,gd⟩
   dsimp only
   refine wpS_bind (wpS_lift (wpAny_rule ⟨rfl,?_⟩))
   refine wpS_bind (wpS_mono (wpS_forRange (I:=fun y c st'=>cY st st'/\∃ i j o g p q,c=(none,i,j,o,g,p,q)/\MidR κ a b o i j/\0<i/\1<j/\x+1<=(a.size - i)+(b.size - j))
    (Q:=fun c st'=>cY st st'/\((∃ r o,c=(some r,o)/\mJ κ a b r)\/∃ i j o g p q,c=(none,i,j,o,g,p,q)/\MidR κ a b o i j/\0<i/\1<j/\x+1<=(a.size - i)+(b.size - j))) ?step2 ?fin2 ⟨ss,_,_,_,_,_,_,rfl,m,h3,h4,by omega⟩) ?post2)
   case fin2=>
    rintro c st' ⟨ss,i,j,o,g,p,q,rfl,m,h3,h4,h5⟩
    exact⟨ss,.inr ⟨i,j,o,g,p,q,rfl,m,h3,h4,by omega⟩⟩
   case post2=>
    rintro c st' ⟨ss,⟨r,o,rfl,gd⟩ | ⟨i,j,o,g,p,q,rfl,m,h3,h4,h5⟩⟩
    ·exact wpS_pure ⟨ss,r,_,rfl,gd⟩
    dsimp only
    exact wpS_bind (rQ fun st2 s2=>wpS_pure ⟨ss.trans s2,_,_,_,_,rfl,m,h3,h4,h5⟩)
   case step2=>
    rintro y c st' _ hy ⟨ss,i,j,o,g,p,q,rfl,m,h3,h4,h5⟩
    dsimp only
    have hla:=m.la
    have hlb:=m.lb
    revert g
    refine B3 (fun g=>?_) (fun _=>rfl)
    all_goals
     refine wpS_bind (rQ fun st2 s2=>?_)
     have ss2:=ss.trans s2
     obtain⟨j,rfl⟩:=Ab (show 0<j by omega)
     simp only[Nat.add_sub_cancel]
     obtain⟨pb,eb⟩:=bA (show j<b.size by omega)
     refine wpS_bind (bD eb (wpS_bind (lH hO (ss2.1.trans hk) (T.kb _ _ eb) T.ka (by omega) (by omega) (fun m n p q hmn _ e1 e2=>T.sa _ _ p q (by omega) e1 e2) fun t ht g1 g2=>?_)))
     dsimp only
     have g1':∀ (n:Nat) q,n<t->a[n]? = some q->Le κ q pb:=fun n q hn e=>g1 n q hn (by rw[zero_add]; exact e)
     by_cases hk0:i - t > 0
     ·rw[if_pos hk0]
      have m1:=m.as T.sa (k:=t) (d:=i - t) (by omega) (fun n p h1 h2 e n' q hn e'=>(T.sb n' j q pb (by omega) e' eb).trans (Lt.le (g2 n p h1 h2 (by rw[zero_add]; exact e))))
      by_cases h7:t=0
      ·rw[if_pos (bM h7)]
       refine wpS_pure ⟨ss2,.inl ⟨_,_,rfl,?_⟩⟩
       rw[h7]at m1 ⊢
       exact m1.finA T
      rw[if_neg (bV h7)]
      obtain⟨i1,rfl⟩:=Ab (show 0<t by omega)
      simp only[Nat.add_sub_cancel]
      refine wpS_bind (bD eb ?_)
      have m2:=m1.pb eb T.sb g1'
      by_cases h8:j=1
      ·rw[if_pos (bM h8)]
       refine wpS_pure ⟨ss2,.inl ⟨_,_,rfl,?_⟩⟩
       rw[h8]at m2 ⊢
       exact m2.fib T
      rw[if_neg (bV h8)]
      obtain⟨pa,ea⟩:=bA (show i1<a.size by omega)
      refine wpS_bind (bD ea (wpS_bind (gZ hO (ss2.1.trans hk) (T.ka _ _ ea) T.kb (by omega) (by omega) (fun m n p q hmn _ e1 e2=>T.sb _ _ p q (by omega) e1 e2) fun t2 ht2 g3 g4=>?_)))
      dsimp only
      have g3':∀ (n:Nat) q,n<t2->b[n]? = some q->Le κ q pa:=fun n q hn e=>Lt.le (g3 n q hn (by rw[zero_add]; exact e))
      by_cases hk3:j - t2 > 0
      ·rw[if_pos hk3]
       have m3:=m2.bs T.sb (k:=t2) (d:=j - t2) (by omega) (fun n p h1 h2 e n' q hn e'=>(T.sa n' i1 q pa (by omega) e' ea).trans (g4 n p h1 h2 (by rw[zero_add]; exact e)))
       by_cases h10:t2=1
       ·rw[if_pos (bM h10)]
        refine wpS_pure ⟨ss2,.inl ⟨_,_,rfl,?_⟩⟩
        rw[h10]at m3 ⊢
        exact m3.fib T
       rw[if_neg (bV h10)]
       by_cases h11:t2=0
       ·rw[if_pos (bM h11)]
        refine wpS_pure ⟨ss2,.inl ⟨_,_,rfl,?_⟩⟩
        rw[h11]at m3 ⊢
        exact m3.finB T
       rw[if_neg (bV h11)]
       refine wpS_bind (bD ea ?_)
       have m4:=m3.pa ea T.sa g3'
       by_cases h9:i1=0
       ·rw[if_pos (bM h9)]
        refine wpS_pure ⟨ss2,.inl ⟨_,_,rfl,?_⟩⟩
        rw[h9]at m4 ⊢
        exact m4.finA T
       ·rw[if_neg (bV h9)]
        split
        ·exact wpS_pure ⟨ss2,.inr ⟨_,_,_,_,_,_,rfl,m4,by omega,by omega,by omega⟩⟩
        ·exact wpS_pure ⟨ss2,_,_,_,_,_,_,rfl,m4,by omega,by omega,by omega⟩
      ·rw[if_neg hk3]
       have et:t2=j:=by omega
       rw[et]at g3'
       refine wpS_bind (bD ea ?_)
       have m4:=m2.pa ea T.sa g3'
       by_cases h9:i1=0
       ·rw[if_pos (bM h9)]
        refine wpS_pure ⟨ss2,.inl ⟨_,_,rfl,?_⟩⟩
        rw[h9]at m4 ⊢
        exact m4.finA T
       ·rw[if_neg (bV h9)]
        split
        ·exact wpS_pure ⟨ss2,.inr ⟨_,_,_,_,_,_,rfl,m4,by omega,by omega,by omega⟩⟩
        ·exact wpS_pure ⟨ss2,_,_,_,_,_,_,rfl,m4,by omega,by omega,by omega⟩
     ·rw[if_neg hk0]
      have et:t=i:=by omega
      rw[et]at g1'
      obtain⟨i1,rfl⟩:=Ab h3
      simp only[Nat.add_sub_cancel]
      refine wpS_bind (bD eb ?_)
      have m2:=m.pb eb T.sb g1'
      by_cases h8:j=1
      ·rw[if_pos (bM h8)]
       refine wpS_pure ⟨ss2,.inl ⟨_,_,rfl,?_⟩⟩
       rw[h8]at m2 ⊢
       exact m2.fib T
      rw[if_neg (bV h8)]
      obtain⟨pa,ea⟩:=bA (show i1<a.size by omega)
      refine wpS_bind (bD ea (wpS_bind (gZ hO (ss2.1.trans hk) (T.ka _ _ ea) T.kb (by omega) (by omega) (fun m n p q hmn _ e1 e2=>T.sb _ _ p q (by omega) e1 e2) fun t2 ht2 g3 g4=>?_)))
      dsimp only
      have g3':∀ (n:Nat) q,n<t2->b[n]? = some q->Le κ q pa:=fun n q hn e=>Lt.le (g3 n q hn (by rw[zero_add]; exact e))
      by_cases hk3:j - t2 > 0
      ·rw[if_pos hk3]
       have m3:=m2.bs T.sb (k:=t2) (d:=j - t2) (by omega) (fun n p h1 h2 e n' q hn e'=>(T.sa n' i1 q pa (by omega) e' ea).trans (g4 n p h1 h2 (by rw[zero_add]; exact e)))
       by_cases h10:t2=1
       ·rw[if_pos (bM h10)]
        refine wpS_pure ⟨ss2,.inl ⟨_,_,rfl,?_⟩⟩
        rw[h10]at m3 ⊢
        exact m3.fib T
       rw[if_neg (bV h10)]
       by_cases h11:t2=0
       ·rw[if_pos (bM h11)]
        refine wpS_pure ⟨ss2,.inl ⟨_,_,rfl,?_⟩⟩
        rw[h11]at m3 ⊢
        exact m3.finB T
       rw[if_neg (bV h11)]
       refine wpS_bind (bD ea ?_)
       have m4:=m3.pa ea T.sa g3'
       by_cases h9:i1=0
       ·rw[if_pos (bM h9)]
        refine wpS_pure ⟨ss2,.inl ⟨_,_,rfl,?_⟩⟩
        rw[h9]at m4 ⊢
        exact m4.finA T
       ·rw[if_neg (bV h9)]
        split
        ·exact wpS_pure ⟨ss2,.inr ⟨_,_,_,_,_,_,rfl,m4,by omega,by omega,by omega⟩⟩
        ·exact wpS_pure ⟨ss2,_,_,_,_,_,_,rfl,m4,by omega,by omega,by omega⟩
      ·rw[if_neg hk3]
       have et:t2=j:=by omega
       rw[et]at g3'
       refine wpS_bind (bD ea ?_)
       have m4:=m2.pa ea T.sa g3'
       by_cases h9:i1=0
       ·rw[if_pos (bM h9)]
        refine wpS_pure ⟨ss2,.inl ⟨_,_,rfl,?_⟩⟩
        rw[h9]at m4 ⊢
        exact m4.finA T
       ·rw[if_neg (bV h9)]
        split
        ·exact wpS_pure ⟨ss2,.inr ⟨_,_,_,_,_,_,rfl,m4,by omega,by omega,by omega⟩⟩
        ·exact wpS_pure ⟨ss2,_,_,_,_,_,_,rfl,m4,by omega,by omega,by omega⟩
end
end TS
end
section
namespace TS
open PySem PyProof.Rows
theorem Be (i:Nat):mergeAt' i=(do
  let z <- get
  let (some (u,n,pw),some (v,m,_)):=((pendingOf z)[i]?,(pendingOf z)[i+1]?) | unsupported "internal:list.sort.pending"
  set (setPending z (((pendingOf z).setIfInBounds i (u,n+m,pw)).eraseIdxIfInBounds (i+1)))
  let some k <- gQ false (<- elem' (arrOf z) v) (arrOf z) u n 0 | return false
  let (u,n):=(u+k,n - k)
  if n == 0 then return true
  let some m <- gQ true (<- elem' (arrOf z) (u+n - 1)) (arrOf z) v m (m - 1) | return false
  if m == 0 then return true
  let x:=(arrOf z).extract u v; let y:=(arrOf z).extract v (v+m)
  let r <- if n<=m then uB x y else uC x y
  modify fun z=>setArr z (r.toList.zipIdx.foldl (fun a (p,j)=>a.setIfInBounds (u+j) p) (arrOf z))
  return (failedOf (<- get)).isNone):=rfl
def SR (κ : KeyKind) (xs:Array Keyed) (lo hi:Nat):Prop:=∀ (i j:Nat) p q,lo<=i->i<=j->j<hi->xs[i]? = some p->xs[j]? = some q->Le κ p q
noncomputable def put (xs:Array Keyed) (u:Nat) (l:List Keyed) (k:Nat):Array Keyed:=(l.zipIdx k).foldl (fun a (p,j)=>a.setIfInBounds (u+j) p) xs
theorem tQ (u:Nat):∀ (l:List Keyed) (k:Nat) (xs:Array Keyed),u+k+l.length<=xs.size->(put xs u l k).toList=xs.toList.take (u+k)++l++xs.toList.drop (u+k+l.length)
 | [],k,xs,h=>by
  show xs.toList=_
  rw[append_nil,List.length_nil,Nat.add_zero,take_append_drop]
 | p::l,k,xs,h=>by
  rw[length_cons]at h
  show (put (xs.setIfInBounds (u+k) p) u l (k+1)).toList=_
  rw[tQ u l (k+1) _ (by rw[Array.size_setIfInBounds]; omega)]
  have hk:u+k<xs.toList.length:=by rw[length_toList]; omega
  rw[Array.toList_setIfInBounds,List.drop_set_of_lt (by omega),show u+(k+1)=(u+k)+1 by omega]
  have e:(xs.toList.set (u+k) p).take (u+k+1)=xs.toList.take (u+k)++[p]:=by
   rw[List.take_add_one,List.take_set_of_le (le_refl _),List.getElem?_set_self hk]
   rfl
  rw[e,append_assoc,append_assoc,append_assoc]
  show _++(p::l++xs.toList.drop (u+k+1+l.length))=_++(p::l++xs.toList.drop (u+k+(l.length+1)))
  rw[show u+k+1+l.length=u+k+(l.length+1) by omega]
theorem EW {xs:Array Keyed} {u:Nat} {l:List Keyed} (h:u+l.length<=xs.size) (i:Nat):(put xs u l 0)[i]? = if i<u then xs[i]? else if i<u+l.length then l[i - u]? else xs[i]?:=by
 rw[<- getElem?_toList,tQ u l 0 xs (by omega),Nat.add_zero]
 have lt:(xs.toList.take u).length=u:=by rw[length_take,length_toList]; omega
 by_cases h1:i<u
 ·rw[if_pos h1,append_assoc,getElem?_append_left (by omega),List.getElem?_take_of_lt h1,getElem?_toList]
 ·rw[if_neg h1]
  by_cases h2:i<u+l.length
  ·rw[if_pos h2,append_assoc,getElem?_append_right (by omega),lt,getElem?_append_left (by omega)]
  ·rw[if_neg h2,getElem?_append_right (by rw[length_append]; omega),length_append,lt,List.getElem?_drop,show u+l.length+(i - (u+l.length))=i by omega,getElem?_toList]
theorem yZ {xs:Array Keyed} {u v:Nat} (hv:v<=xs.size) (i:Nat):(xs.extract u v)[i]? = if u+i<v then xs[u+i]? else none:=by
 rw[Array.getElem?_extract]
 by_cases h:u+i<v
 ·rw[if_pos h,if_pos (by omega)]
 ·rw[if_neg h,if_neg (by omega)]
theorem EV {xs:Array Keyed} {u v m:Nat} {r:Array Keyed} (huv:u<=v) (hm:v+m<=xs.size) (hr:r.toList.Perm ((xs.extract u v).toList++(xs.extract v (v+m)).toList)):(put xs u r.toList 0).Perm xs/\r.toList.length=v - u+m:=by
 have hl:r.toList.length=v - u+m:=by
  have:=hr.length_eq
  rw[length_append,length_toList,length_toList,length_toList,Array.size_extract,Array.size_extract]at this
  rw[length_toList]
  omega
 refine⟨?_,hl⟩
 rw[Array.perm_iff_toList_perm,tQ u r.toList 0 xs (by omega),Nat.add_zero,hl]
 rw[Array.toList_extract,Array.toList_extract,List.extract_eq_take_drop,List.extract_eq_take_drop]at hr
 have e:xs.toList=xs.toList.take u++((xs.toList.drop u).take (v - u)++(xs.toList.drop v).take (v+m - v))++xs.toList.drop (u+(v - u+m)):=by
  have e1:(xs.toList.drop u).take (v - u)++(xs.toList.drop v).take (v+m - v)=(xs.toList.drop u).take (v - u+m):=by
   rw[List.take_add,List.drop_drop,show u+(v - u)=v by omega,show v+m - v=m by omega]
  rw[e1,append_assoc]
  have e2:(xs.toList.drop u).take (v - u+m)++xs.toList.drop (u+(v - u+m))=xs.toList.drop u:=by
   rw[<- List.drop_drop,take_append_drop]
  rw[e2,take_append_drop]
 exact((List.Perm.append_left _ hr).append_right _).trans (List.Perm.of_eq e.symm)
structure SB (κ : KeyKind) (a₀ : Array Keyed) (st:SortSt):Prop where
 kind:kindOf st=oneType'
 failed:failedOf st=none
 perm:(arrOf st).Perm a₀
theorem SB.size {κ : KeyKind} {a₀ : Array Keyed} {st:SortSt} (h:SB κ a₀ st):(arrOf st).size=a₀.size:=h.perm.size_eq
theorem SB.keys {κ : KeyKind} {a₀ : Array Keyed} {st:SortSt} (h:SB κ a₀ st) (h0:KeysOf κ a₀):AllK κ (arrOf st):=fun i p e=>by
 refine h0 p ((Array.perm_iff_toList_perm.mp h.perm).mem_iff.mp ?_)
 rw[<- getElem?_toList]at e
 exact mem_of_getElem? e
section
variable {prog:Program} {w:World} {A:Around} {E:Value->Shared->Prop} {s:Shared} {κ : KeyKind} {a₀ : Array Keyed}
theorem Fj {σ : Type} {x:σ} {Q:PUnit->σ->Prop} {st:σ} {M:Model} (h:Q ⟨⟩ x):wpS M A E s (set x:StateT σ Sem PUnit) Q st:=by
 unfold wpS
 rw[StateT.run_set]
 exact wpAny_pure ⟨rfl,h⟩
theorem Bd (hO:κ.OneLt) (h0:KeysOf κ a₀) {st:SortSt} (B:SB κ a₀ st) {i u n m pw pw2:Nat} (e1:(pendingOf st)[i]? = some (u,n,pw)) (e2:(pendingOf st)[i+1]? = some (u+n,m,pw2)) (n0:0<n) (m0:0<m) (hsz:u+n+m<=a₀.size)
  (s1:SR κ (arrOf st) u (u+n)) (s2:SR κ (arrOf st) (u+n) (u+n+m)) {Q:Bool->SortSt->Prop}
  (h:∀ st',SB κ a₀ st'->pendingOf st'=((pendingOf st).setIfInBounds i (u,n+m,pw)).eraseIdxIfInBounds (i+1)->SR κ (arrOf st') u (u+n+m)->(∀ j,j<u\/u+n+m<=j->(arrOf st')[j]? = (arrOf st)[j]?)->Q true st') :
  wpS (model prog w) A E s (mergeAt' i) Q st:=by
 rw[Be]
 refine wpS_bind (wpS_get ?_)
 rw[e1,e2]
 dsimp only
 refine wpS_bind (Fj ?_)
 generalize hst1:setPending st (((pendingOf st).setIfInBounds i (u,n+m,pw)).eraseIdxIfInBounds (i+1))=st1
 have k1:kindOf st1=oneType':=by rw[<- hst1]; exact B.kind
 have f1:failedOf st1=none:=by rw[<- hst1]; exact B.failed
 have ar1:arrOf st1=arrOf st:=by rw[<- hst1]
 have pe1:pendingOf st1=((pendingOf st).setIfInBounds i (u,n+m,pw)).eraseIdxIfInBounds (i+1):=by rw[<- hst1]
 have B1:SB κ a₀ st1:=⟨k1,f1,by rw[ar1]; exact B.perm⟩
 have AK:=B.keys h0
 have sz:=B.size
 generalize arrOf st=xs at ar1 AK sz s1 s2 h ⊢
 obtain⟨b1,eb1⟩:=bA (show u+n<xs.size by omega)
 refine wpS_bind (bD eb1 (wpS_bind (lH hO k1 (AK _ _ eb1) AK (by omega) n0 (fun i j p q hij hj e1 e2=>s1 _ _ p q (by omega) (by omega) (by omega) e1 e2) fun k hk g1 g2=>?_)))
 dsimp only
 have le1:∀ (j:Nat) p,u<=j->j<u+k->xs[j]? = some p->∀ (j':Nat) q,j<=j'->j'<u+n+m->xs[j']? = some q->Le κ p q:=fun j p h1 h2 e j' q h3 h4 e'=>by
  by_cases h5:j'<u+n
  ·exact s1 j j' p q h1 h3 h5 e e'
  ·exact(g1 (j - u) p (by omega) (by rw[show u+(j - u)=j by omega]; exact e)).trans (s2 (u+n) j' b1 q (le_refl _) (by omega) h4 eb1 e')
 by_cases hk0:n - k=0
 ·rw[if_pos (bM hk0)]
  refine wpS_pure (h st1 B1 pe1 ?_ (fun j _=>by rw[ar1]))
  rw[ar1]
  intro j j' p q h1 h2 h3 e e'
  by_cases h4:j<u+n
  ·exact le1 j p h1 (by omega) e j' q h2 h3 e'
  ·exact s2 j j' p q (by omega) h2 h3 e e'
 rw[if_neg (bV hk0)]
 have ev:u+k+(n - k) - 1=u+n - 1:=by omega
 rw[ev]
 obtain⟨al,eal⟩:=bA (show u+n - 1<xs.size by omega)
 refine wpS_bind (bD eal (wpS_bind (gZ hO k1 (AK _ _ eal) AK (by omega) (by omega) (fun i j p q hij hj e1 e2=>s2 _ _ p q (by omega) (by omega) (by omega) e1 e2) fun t ht g3 g4=>?_)))
 dsimp only
 obtain⟨a1,ea1⟩:=bA (show u+k<xs.size by omega)
 have hb1a1:Lt κ b1 a1:=g2 k a1 (le_refl _) (by omega) ea1
 by_cases ht0:t=0
 ·exfalso
  have:=g4 0 b1 (by omega) m0 eb1
  have h5:=s1 (u+k) (u+n - 1) a1 al (by omega) (by omega) (by omega) ea1 eal
  exact KeyOrd.not_klt_of_kle (h5.trans this) hb1a1
 rw[if_neg (bV ht0)]
 have T:Two κ (xs.extract (u+k) (u+n)) (xs.extract (u+n) (u+n+t)):=by
  have hx:∀ (i:Nat) p,(xs.extract (u+k) (u+n))[i]? = some p->u+k+i<u+n/\xs[u+k+i]? = some p:=fun i p e=>by
   rw[yZ (by omega)]at e
   by_cases hh:u+k+i<u+n
   ·rw[if_pos hh]at e; exact⟨hh,e⟩
   ·rw[if_neg hh]at e; cases e
  have hy:∀ (i:Nat) p,(xs.extract (u+n) (u+n+t))[i]? = some p->u+n+i<u+n+t/\xs[u+n+i]? = some p:=fun i p e=>by
   rw[yZ (by omega)]at e
   by_cases hh:u+n+i<u+n+t
   ·rw[if_pos hh]at e; exact⟨hh,e⟩
   ·rw[if_neg hh]at e; cases e
  have zx:(xs.extract (u+k) (u+n)).size=n - k:=by rw[Array.size_extract]; omega
  have zy:(xs.extract (u+n) (u+n+t)).size=t:=by rw[Array.size_extract]; omega
  refine⟨fun i p e=>AK _ _ (hx i p e).2,fun i p e=>AK _ _ (hy i p e).2,fun i j p q hij e e'=>?_,fun i j p q hij e e'=>?_,by omega,by omega,fun p q e e'=>?_,fun p q e e'=>?_⟩
  ·obtain⟨a1,a2⟩:=hx i p e
   obtain⟨a3,a4⟩:=hx j q e'
   exact s1 _ _ p q (by omega) (by omega) a3 a2 a4
  ·obtain⟨a1,a2⟩:=hy i p e
   obtain⟨a3,a4⟩:=hy j q e'
   exact s2 _ _ p q (by omega) (by omega) (by omega) a2 a4
  ·obtain⟨_,a2⟩:=hx 0 p e
   obtain⟨_,a4⟩:=hy 0 q e'
   rw[Nat.add_zero]at a2 a4
   rw[ea1]at a2
   rw[eb1]at a4
   cases a2
   cases a4
   exact hb1a1.le
  ·rw[zx]at e
   rw[zy]at e'
   obtain⟨_,a2⟩:=hx _ p e
   obtain⟨_,a4⟩:=hy _ q e'
   rw[show u+k+(n - k - 1)=u+n - 1 by omega,eal]at a2
   cases a2
   exact(g3 (t - 1) q (by omega) a4).le
 have fin:∀ r st',cY st1 st'->mJ κ (xs.extract (u+k) (u+n)) (xs.extract (u+n) (u+n+t)) r->wpS (model prog w) A E s (do
   modify fun z=>setArr z (r.toList.zipIdx.foldl (fun a (p,j)=>a.setIfInBounds (u+k+j) p) (arrOf z))
   return (failedOf (<- get)).isNone) Q st':=by
  intro r st' ss gd
  obtain⟨pp,rl⟩:=EV (xs:=xs) (u:=u+k) (v:=u+n) (m:=t) (r:=r) (by omega) (by omega) gd.1
  have hsz':u+k+r.toList.length<=xs.size:=by omega
  refine wpS_bind (wpS_modify (wpS_bind (wpS_get ?_)))
  have ear:arrOf st'=xs:=ss.2.1.trans ar1
  generalize hst2:setArr st' (r.toList.zipIdx.foldl (fun a (p,j)=>a.setIfInBounds (u+k+j) p) (arrOf st'))=st2
  have ar2:arrOf st2=put xs (u+k) r.toList 0:=by
   rw[<- hst2]
   show r.toList.zipIdx.foldl (fun a (p,j)=>a.setIfInBounds (u+k+j) p) (arrOf st')=_
   rw[ear]
   rfl
  have f2:failedOf st2=none:=by rw[<- hst2]; exact ss.2.2.2.trans f1
  have k2:kindOf st2=oneType':=by rw[<- hst2]; exact ss.1.trans k1
  have p2:pendingOf st2=pendingOf st1:=by rw[<- hst2]; exact ss.2.2.1
  rw[f2]
  refine wpS_pure (h st2 ⟨k2,f2,?_⟩ (p2.trans pe1) ?_ fun j hj=>?_)
  ·rw[ar2]
   have hp0:=B1.perm
   rw[ar1]at hp0
   exact pp.trans hp0
  ·rw[ar2]
   have fromM:∀ p,p∈r.toList->(∃ j,u+k<=j/\j<u+n/\xs[j]? = some p)\/∃ j,u+n<=j/\j<u+n+t/\xs[j]? = some p:=fun p hp=>by
    have:=gd.1.mem_iff.mp hp
    rw[mem_append]at this
    rcases this with hh | hh
    ·obtain⟨j,hj⟩:=List.mem_iff_getElem?.mp hh
     rw[getElem?_toList,yZ (by omega)]at hj
     by_cases hz:u+k+j<u+n
     ·rw[if_pos hz]at hj
      exact .inl ⟨_,by omega,hz,hj⟩
     ·rw[if_neg hz]at hj; cases hj
    ·obtain⟨j,hj⟩:=List.mem_iff_getElem?.mp hh
     rw[getElem?_toList,yZ (by omega)]at hj
     by_cases hz:u+n+j<u+n+t
     ·rw[if_pos hz]at hj
      exact .inr ⟨_,by omega,hz,hj⟩
     ·rw[if_neg hz]at hj; cases hj
   have le3:∀ (j:Nat) p,u+k<=j->j<u+n+t->xs[j]? = some p->∀ (j':Nat) q,u+n+t<=j'->j'<u+n+m->xs[j']? = some q->Le κ p q:=fun j p h1 h2 e j' q h3 h4 e'=>by
    by_cases h5:j<u+n
    ·exact(s1 j (u+n - 1) p al (by omega) (by omega) (by omega) e eal).trans (g4 (j' - (u+n)) q (by omega) (by omega) (by rw[show u+n+(j' - (u+n))=j' by omega]; exact e'))
    ·exact s2 j j' p q (by omega) (by omega) h4 e e'
   intro j j' p q h1 h2 h3 e e'
   rw[EW hsz',rl]at e e'
   by_cases z1:j<u+k
   ·rw[if_pos z1]at e
    by_cases y1:j'<u+k
    ·rw[if_pos y1]at e'
     exact le1 j p h1 z1 e j' q h2 h3 e'
    ·rw[if_neg y1]at e'
     by_cases y2:j'<u+k+(u+n - (u+k)+t)
     ·rw[if_pos y2]at e'
      rcases fromM q (mem_of_getElem? e') with ⟨l,l1,l2,l3⟩ | ⟨l,l1,l2,l3⟩
      ·exact le1 j p h1 z1 e l q (by omega) (by omega) l3
      ·exact le1 j p h1 z1 e l q (by omega) (by omega) l3
     ·rw[if_neg y2]at e'
      exact le1 j p h1 z1 e j' q h2 h3 e'
   ·rw[if_neg z1]at e
    rw[if_neg (by omega)]at e'
    by_cases z2:j<u+k+(u+n - (u+k)+t)
    ·rw[if_pos z2]at e
     by_cases y2:j'<u+k+(u+n - (u+k)+t)
     ·rw[if_pos y2]at e'
      rcases Nat.lt_or_ge j j' with hlt | hge
      ·exact List.pairwise_iff_getElem.mp gd.2 (j - (u+k)) (j' - (u+k)) (by omega) (by omega) (by omega) |> fun hh=>by
        have e3:=List.getElem?_eq_some_iff.mp e
        have e4:=List.getElem?_eq_some_iff.mp e'
        obtain⟨_,e3⟩:=e3
        obtain⟨_,e4⟩:=e4
        rw[e3,e4]at hh
        exact hh
      ·have:j=j':=by omega
       subst this
       rw[e]at e'
       cases e'
       exact Le.refl _
     ·rw[if_neg y2]at e'
      rcases fromM p (mem_of_getElem? e) with ⟨l,l1,l2,l3⟩ | ⟨l,l1,l2,l3⟩
      ·exact le3 l p (by omega) (by omega) l3 j' q (by omega) h3 e'
      ·exact le3 l p (by omega) (by omega) l3 j' q (by omega) h3 e'
    ·rw[if_neg z2]at e
     rw[if_neg (by omega)]at e'
     exact s2 j j' p q (by omega) h2 h3 e e'
  ·rw[ar2,EW hsz',rl]
   by_cases z1:j<u+k
   ·rw[if_pos z1]
   ·rw[if_neg z1,if_neg (by omega)]
 split
 ·exact wpS_bind (BZ hO T k1 fin)
 ·exact wpS_bind (Bb hO T k1 fin)
end
end TS
end
section
namespace TS
open PySem PyProof.Rows
noncomputable def kAt (κ : KeyKind) (xs:Array Keyed) (i:Nat):Option κ.α:=xs[i]?.map (kk κ)
def Up (κ : KeyKind) (xs:Array Keyed) (lo hi:Nat):Prop:=∀ (i j:Nat) x y,lo<=i->i<=j->j<hi->kAt κ xs i=some x->kAt κ xs j=some y->κ.kle x y
def Dn (κ : KeyKind) (xs:Array Keyed) (lo hi:Nat):Prop:=∀ (i j:Nat) x y,lo<=i->i<=j->j<hi->kAt κ xs i=some x->kAt κ xs j=some y->κ.kle y x
theorem Up.sr {κ : KeyKind} {xs:Array Keyed} {lo hi:Nat} (h:Up κ xs lo hi):SR κ xs lo hi:=fun i j p q h1 h2 h3 e e'=>h i j (kk κ p) (kk κ q) h1 h2 h3 (by unfold kAt; rw[e]; rfl) (by unfold kAt; rw[e']; rfl)
theorem yU {κ : KeyKind} {xs:Array Keyed} {i:Nat} {p:Keyed} (e:xs[i]? = some p):kAt κ xs i=some (kk κ p):=by unfold kAt; rw[e]; rfl
structure Keep (κ : KeyKind) (a₀ : Array Keyed) (lo:Nat) (st st':SortSt):Prop where
 sb:SB κ a₀ st'
 pend:pendingOf st'=pendingOf st
 low:∀ i,i<lo->(arrOf st')[i]? = (arrOf st)[i]?
theorem Keep.trans {κ : KeyKind} {a₀ : Array Keyed} {lo:Nat} {a b c:SortSt} (h:Keep κ a₀ lo a b) (h':Keep κ a₀ lo b c):Keep κ a₀ lo a c:=⟨h'.sb,h'.pend.trans h.pend,fun i hi=>(h'.low i hi).trans (h.low i hi)⟩
theorem Keep.refl {κ : KeyKind} {a₀ : Array Keyed} {lo:Nat} {a:SortSt} (h:SB κ a₀ a):Keep κ a₀ lo a a:=⟨h,rfl,fun _ _=>rfl⟩
theorem Up.snoc {κ : KeyKind} {xs:Array Keyed} {lo n:Nat} {x y:κ.α} (h:Up κ xs lo n) (hn:lo<n) (ex:kAt κ xs (n - 1)=some x) (ey:kAt κ xs n=some y) (hxy:κ.kle x y):Up κ xs lo (n+1):=by
 intro i j u v h1 h2 h3 eu ev
 by_cases hj:j<n
 ·exact h i j u v h1 h2 hj eu ev
 ·have hj:j=n:=by omega
  subst hj
  rw[ey]at ev
  cases ev
  by_cases hi:i=j
  ·subst hi
   rw[ey]at eu
   cases eu
   exact KeyOrd.kle_refl _
  ·exact KeyOrd.kle_trans (h i (j - 1) u x h1 (by omega) (by omega) eu ex) hxy
theorem Dn.snoc {κ : KeyKind} {xs:Array Keyed} {lo n:Nat} {x y:κ.α} (h:Dn κ xs lo n) (hn:lo<n) (ex:kAt κ xs (n - 1)=some x) (ey:kAt κ xs n=some y) (hxy:κ.kle y x):Dn κ xs lo (n+1):=by
 intro i j u v h1 h2 h3 eu ev
 by_cases hj:j<n
 ·exact h i j u v h1 h2 hj eu ev
 ·have hj:j=n:=by omega
  subst hj
  rw[ey]at ev
  cases ev
  by_cases hi:i=j
  ·subst hi
   rw[ey]at eu
   cases eu
   exact KeyOrd.kle_refl _
  ·exact KeyOrd.kle_trans hxy (h i (j - 1) u x h1 (by omega) (by omega) eu ex)
section
variable {prog:Program} {w:World} {A:Around} {E:Value->Shared->Prop} {s:Shared} {κ : KeyKind} {a₀ : Array Keyed}
theorem mL (hO:κ.OneLt) (h0:KeysOf κ a₀) {st:SortSt} (B:SB κ a₀ st) {i j:Nat} {Q:Option Bool->SortSt->Prop} (hi:i<a₀.size) (hj:j<a₀.size) (h:∀ x y,kAt κ (arrOf st) i=some x->kAt κ (arrOf st) j=some y->Q (some (κ.blt x y)) st):wpS (model prog w) A E s (ltAt' i j) Q st:=by
 obtain⟨p,ep⟩:=bA (show i<(arrOf st).size by rw[B.size]; exact hi)
 obtain⟨q,eq⟩:=bA (show j<(arrOf st).size by rw[B.size]; exact hj)
 rw[ltAt'_eq]
 refine wpS_bind (wpS_get ?_)
 dsimp only
 exact wpS_bind (bD ep (wpS_bind (bD eq (zI hO B.kind (B.keys h0 _ _ ep) (B.keys h0 _ _ eq) (h _ _ (yU ep) (yU eq))))))
theorem Ds {st:SortSt} (B:SB κ a₀ st) {lo i j:Nat} (hlo:lo<=i) (hj:j<=a₀.size) {Q:Unit->SortSt->Prop} (h:∀ st',Keep κ a₀ lo st st'->(∀ k,kAt κ (arrOf st') k=if i<=k/\k<j then kAt κ (arrOf st) (i+j - 1 - k) else kAt κ (arrOf st) k)->Q () st'):wpS (model prog w) A E s (reverseSlice' i j) Q st:=by
 rw[reverseSlice'_eq]
 have hsz:j<=(arrOf st).size:=by rw[B.size]; exact hj
 refine wpS_modify (h _ ⟨⟨B.kind,B.failed,(mirror_perm _ _ _ _).trans B.perm⟩,rfl,fun k hk=>?_⟩ fun k=>?_)
 ·show (mirror (arrOf st) i j ((j - i) / 2))[k]? = _
  rw[getElem?_mirror_all hsz,if_neg (by omega)]
 ·show ((mirror (arrOf st) i j ((j - i) / 2))[k]?).map (kk κ)=_
  rw[getElem?_mirror_all hsz]
  split <;> rfl
theorem Fe (hO:κ.OneLt) (h0:KeysOf κ a₀) {st:SortSt} (B:SB κ a₀ st) {lo a nrem:Nat} (ha:1<=a) (han:a<=nrem) (hn:lo+nrem<=a₀.size) (u:Up κ (arrOf st) lo (lo+a)) {Q:Option Nat->SortSt->Prop} (h:∀ m,1<=m->m<=nrem->Up κ (arrOf st) lo (lo+m)->Q (some m) st) :
  wpS (model prog w) A E s (do
   let mut n:=a
   for _ in [a:nrem] do
    let some y <- ltAt' (lo+n) (lo+n - 1) | return none
    if y then break
    n:=n+1
   return some n) Q st:=by
 dsimp only
 refine wpS_bind (wpS_mono (wpS_forRange (I:=fun x c st'=>st'=st/\c=(none,x)/\Up κ (arrOf st) lo (lo+x)) (Q:=fun c st'=>st'=st/\∃ m,c=(none,m)/\1<=m/\m<=nrem/\Up κ (arrOf st) lo (lo+m)) ?step ?fin ⟨rfl,rfl,u⟩) ?post)
 case fin=>
  rintro c st' ⟨rfl,rfl,u⟩
  refine⟨rfl,_,rfl,by omega,by omega,u⟩
 case step=>
  rintro x c st' hx1 hx2 ⟨rfl,rfl,u⟩
  dsimp only
  refine wpS_bind (mL hO h0 B (by omega) (by omega) fun x' y' ex ey=>?_)
  cases hb:κ.blt x' y' with
  | true=>
   dsimp only
   rw[if_pos rfl]
   exact wpS_pure ⟨rfl,x,rfl,by omega,by omega,u⟩
  | false=>
   dsimp only
   rw[if_neg (by decide)]
   refine wpS_pure ⟨rfl,rfl,?_⟩
   exact u.snoc (by omega) ey ex hb
 case post=>
  rintro c st' ⟨rfl,m,rfl,m1,m2,u⟩
  exact wpS_pure (h m m1 m2 u)
theorem w6 (hO:κ.OneLt) (h0:KeysOf κ a₀) {st:SortSt} (B:SB κ a₀ st) {lo a nrem:Nat} (ha:1<=a) (han:a<=nrem) (hn:lo+nrem<=a₀.size) (u:Dn κ (arrOf st) lo (lo+a)) {Q:Option Nat->SortSt->Prop} (h:∀ m st',Keep κ a₀ lo st st'->1<=m->m<=nrem->Up κ (arrOf st') lo (lo+m)->Q (some m) st') :
  wpS (model prog w) A E s (do
   reverseSlice' lo (lo+a)
   let mut n:=a
   for _ in [a:nrem] do
    let some y <- ltAt' (lo+n) (lo+n - 1) | return none
    if y then break
    n:=n+1
   return some n) Q st:=by
 refine wpS_bind (Ds B (le_refl lo) (by omega) fun st1 k1 e1=>?_)
 refine Fe hO h0 k1.sb ha han hn (fun i j x y h1 h2 h3 ex ey=>?_) fun m m1 m2 u=>h m st1 k1 m1 m2 u
 rw[e1,if_pos (by omega)]at ex ey
 exact u _ _ y x (by omega) (by omega) (by omega) ey ex
def Eqs (κ : KeyKind) (xs:Array Keyed) (lo hi:Nat):Prop:=∀ i,lo<=i->i<hi->kAt κ xs i=kAt κ xs (hi - 1)
theorem sC {st:SortSt} (B:SB κ a₀ st) {lo i j:Nat} (hlo:lo<=i) (hj:j<=a₀.size) (hq:Eqs κ (arrOf st) i j) {Q:Unit->SortSt->Prop} (h:∀ st',Keep κ a₀ lo st st'->(∀ k,kAt κ (arrOf st') k=kAt κ (arrOf st) k)->Q () st'):wpS (model prog w) A E s (reverseSlice' i j) Q st:=by
 refine Ds B hlo hj fun st' k' e'=>h st' k' fun k=>?_
 rw[e']
 by_cases hk:i<=k/\k<j
 ·rw[if_pos hk,hq _ (by omega) (by omega),hq k hk.1 hk.2]
 ·rw[if_neg hk]
theorem Dn.congr {xs ys:Array Keyed} {lo hi:Nat} (h:Dn κ xs lo hi) (e:∀ k,kAt κ ys k=kAt κ xs k):Dn κ ys lo hi:=fun i j x y h1 h2 h3 ex ey=>h i j x y h1 h2 h3 (by rw[<- e]; exact ex) (by rw[<- e]; exact ey)
theorem Cd (hO:κ.OneLt) (h0:KeysOf κ a₀) {st:SortSt} (B:SB κ a₀ st) {lo a nrem:Nat} (ha:1<=a) (han:a+1<=nrem) (hn:lo+nrem<=a₀.size) (u:Dn κ (arrOf st) lo (lo+(a+1))) {Q:Option Nat->SortSt->Prop} (h:∀ m st',Keep κ a₀ lo st st'->1<=m->m<=nrem->Up κ (arrOf st') lo (lo+m)->Q (some m) st') :
  wpS (model prog w) A E s (do
   rule "list.sort.descending-run"; let mut n:=a+1
   let mut e:=0
   for _ in [n:nrem] do
    let some y <- ltAt' (lo+n) (lo+n - 1) | return none
    if y then
     if e > 0 then reverseSlice' (lo+n - (e+1)) (lo+n)
     e:=0
    else
     let some z <- ltAt' (lo+n - 1) (lo+n) | return none
     if z then break
     e:=e+1
    n:=n+1
   if e > 0 then reverseSlice' (lo+n - (e+1)) (lo+n)
   reverseSlice' lo (lo+n)
   for _ in [n:nrem] do
    let some y <- ltAt' (lo+n) (lo+n - 1) | return none
    if y then break
    n:=n+1
   return some n) Q st:=by
 refine wpS_bind (wpS_lift (wpAny_rule ⟨rfl,?_⟩))
 dsimp only
 refine wpS_bind (wpS_mono (wpS_forRange (I:=fun x c st'=>Keep κ a₀ lo st st'/\∃ e,c=(none,x,e)/\Dn κ (arrOf st') lo (lo+x)/\e+1<=x/\Eqs κ (arrOf st') (lo+x - (e+1)) (lo+x))
  (Q:=fun c st'=>Keep κ a₀ lo st st'/\∃ m e,c=(none,m,e)/\a+1<=m/\m<=nrem/\Dn κ (arrOf st') lo (lo+m)/\e+1<=m/\Eqs κ (arrOf st') (lo+m - (e+1)) (lo+m)) ?step ?fin ⟨Keep.refl B,0,rfl,u,by omega,fun i h1 h2=>by congr 1; omega⟩) ?post)
 case fin=>
  rintro c st' ⟨k,e,rfl,u,e1,e2⟩
  rw[show max (a+1) nrem=nrem by omega]at *
  exact⟨k,nrem,e,rfl,han,le_refl _,u,e1,e2⟩
 case step=>
  rintro x c st' hx1 hx2 ⟨k,e,rfl,u,e1,e2⟩
  dsimp only
  refine wpS_bind (mL hO h0 k.sb (by omega) (by omega) fun x' y' ex ey=>?_)
  cases hb:κ.blt x' y' with
  | true=>
   dsimp only
   rw[if_pos rfl]
   have u':=u.snoc (by omega) ey ex (KeyOrd.kle_of_klt hb)
   by_cases he:e > 0
   ·rw[if_pos he]
    refine wpS_bind (sC (lo:=lo) k.sb (by omega) (by omega) e2 fun st2 k2 c2=>wpS_pure ⟨k.trans k2,0,rfl,u'.congr c2,by omega,fun i h1 h2=>by congr 1; omega⟩)
   ·rw[if_neg he]
    exact wpS_pure ⟨k,0,rfl,u',by omega,fun i h1 h2=>by congr 1; omega⟩
  | false=>
   dsimp only
   rw[if_neg (by decide)]
   refine wpS_bind (mL hO h0 k.sb (by omega) (by omega) fun y2 x2 ey2 ex2=>?_)
   rw[ex]at ex2
   rw[ey]at ey2
   cases ex2
   cases ey2
   cases hb2:κ.blt y' x' with
   | true=>
    dsimp only
    rw[if_pos rfl]
    exact wpS_pure ⟨k,x,e,rfl,hx1,by omega,u,e1,e2⟩
   | false=>
    dsimp only
    rw[if_neg (by decide)]
    have exy:x'=y':=KeyOrd.kle_antisymm hb2 hb
    subst exy
    refine wpS_pure ⟨k,e+1,rfl,u.snoc (by omega) ey ex (KeyOrd.kle_refl _),by omega,fun i h1 h2=>?_⟩
    rw[show lo+(x+1) - 1=lo+x by omega,ex]
    by_cases hi:i=lo+x
    ·rw[hi,ex]
    ·rw[e2 i (by omega) (by omega),ey]
 case post=>
  rintro c st' ⟨k,m,e,rfl,m1,m2,u,e1,e2⟩
  dsimp only
  by_cases he:e > 0
  ·rw[if_pos he]
   refine wpS_bind (sC (lo:=lo) k.sb (by omega) (by omega) e2 fun st2 k2 c2=>?_)
   exact w6 hO h0 k2.sb (by omega) m2 hn (u.congr c2) fun m' st3 k3=>h m' st3 (k.trans (k2.trans k3))
  ·rw[if_neg he]
   exact w6 hO h0 k.sb (by omega) m2 hn u fun m' st3 k3=>h m' st3 (k.trans k3)
theorem Ah (hO:κ.OneLt) (h0:KeysOf κ a₀) {st:SortSt} (B:SB κ a₀ st) {lo nrem:Nat} (hr:1<=nrem) (hn:lo+nrem<=a₀.size) {Q:Option Nat->SortSt->Prop} (h:∀ m st',Keep κ a₀ lo st st'->1<=m->m<=nrem->Up κ (arrOf st') lo (lo+m)->Q (some m) st'):wpS (model prog w) A E s (countRun' lo nrem) Q st:=by
 rw[countRun'_eq]
 dsimp only
 refine wpS_bind (wpS_mono (wpS_forRange (I:=fun x c st'=>st'=st/\c=(none,x)/\Up κ (arrOf st) lo (lo+x)) (Q:=fun c st'=>st'=st/\∃ m,c=(none,m)/\1<=m/\m<=nrem/\Up κ (arrOf st) lo (lo+m)/\(m=nrem\/∃ x y,kAt κ (arrOf st) (lo+m)=some x/\kAt κ (arrOf st) (lo+m - 1)=some y/\κ.klt x y)) ?step ?fin ⟨rfl,rfl,?u1⟩) ?post)
 case u1=>
  intro i j x y h1 h2 h3 ex ey
  have:i=j:=by omega
  subst this
  rw[ex]at ey
  cases ey
  exact KeyOrd.kle_refl _
 case fin=>
  rintro c st' ⟨rfl,rfl,u⟩
  rw[show max 1 nrem=nrem by omega]at *
  exact⟨rfl,_,rfl,hr,le_refl _,u,.inl rfl⟩
 case step=>
  rintro x c st' hx1 hx2 ⟨rfl,rfl,u⟩
  dsimp only
  refine wpS_bind (mL hO h0 B (by omega) (by omega) fun x' y' ex ey=>?_)
  cases hb:κ.blt x' y' with
  | true=>
   dsimp only
   rw[if_pos rfl]
   exact wpS_pure ⟨rfl,x,rfl,hx1,by omega,u,.inr ⟨x',y',ex,ey,hb⟩⟩
  | false=>
   dsimp only
   rw[if_neg (by decide)]
   exact wpS_pure ⟨rfl,rfl,u.snoc (by omega) ey ex hb⟩
 case post=>
  rintro c st' ⟨rfl,m,rfl,m1,m2,u,hend⟩
  dsimp only
  by_cases hm:m=nrem
  ·rw[if_pos (bM hm)]
   exact wpS_pure (h m st' (Keep.refl B) m1 m2 u)
  rw[if_neg (bV hm)]
  obtain⟨x,y,ex,ey,hxy⟩:∃ x y,kAt κ (arrOf st') (lo+m)=some x/\kAt κ (arrOf st') (lo+m - 1)=some y/\κ.klt x y:=by
   rcases hend with z | z
   ·exact absurd z hm
   ·exact z
  by_cases h1:m > 1
  ·rw[if_pos h1]
   refine wpS_bind (mL hO h0 B (by omega) (by omega) fun x0 y0 ex0 ey0=>?_)
   cases hb:κ.blt x0 y0 with
   | true=>
    dsimp only
    rw[if_pos rfl]
    exact wpS_pure (h m st' (Keep.refl B) m1 m2 u)
   | false=>
    dsimp only
    rw[if_neg (by decide)]
    have eqs:Eqs κ (arrOf st') lo (lo+m):=fun i h1 h2=>by
     obtain⟨p,ep⟩:=bA (show i<(arrOf st').size by rw[B.size]; omega)
     have ei:=yU (κ:=κ) ep
     rw[ei,ey0]
     congr 1
     refine KeyOrd.kle_antisymm (u i (lo+m - 1) _ _ h1 (by omega) (by omega) ei ey0) ?_
     exact KeyOrd.kle_trans hb (u lo i _ _ (le_refl _) h1 h2 ex0 ei)
    refine wpS_bind (sC B (le_refl lo) (by omega) eqs fun st2 k2 c2=>?_)
    refine Cd hO h0 k2.sb m1 (by omega) hn ?_ fun m' st3 k3=>h m' st3 (k2.trans k3)
    have d1:Dn κ (arrOf st') lo (lo+m):=fun i j x1 y1 h1 h2 h3 e1 e2=>by
     rw[eqs i h1 (by omega)]at e1
     rw[eqs j (by omega) h3,e1]at e2
     cases e2
     exact KeyOrd.kle_refl _
    exact(d1.snoc (by omega) ey ex (KeyOrd.kle_of_klt hxy)).congr c2
  ·rw[if_neg h1]
   refine Cd hO h0 B m1 (by omega) hn ?_ h
   have d1:Dn κ (arrOf st') lo (lo+m):=fun i j x1 y1 h1 h2 h3 e1 e2=>by
    have:i=j:=by omega
    subst this
    rw[e1]at e2
    cases e2
    exact KeyOrd.kle_refl _
   exact d1.snoc (by omega) ey ex (KeyOrd.kle_of_klt hxy)
end
end TS
end
section
namespace TS
open PySem PyProof.Rows
section
variable {prog:Program} {w:World} {A:Around} {E:Value->Shared->Prop} {s:Shared} {κ : KeyKind} {a₀ : Array Keyed}
theorem Fi {st:SortSt} (B:SB κ a₀ st) {lo src dst:Nat} (h1:lo<=dst) (h2:dst<=src) (h3:src<a₀.size) {Q:Unit->SortSt->Prop} (h:∀ st',Keep κ a₀ lo st st'->(∀ k,kAt κ (arrOf st') k=if k=dst then kAt κ (arrOf st) src else if dst<k/\k<=src then kAt κ (arrOf st) (k - 1) else kAt κ (arrOf st) k)->Q () st'):wpS (model prog w) A E s (moveDown' src dst) Q st:=by
 rw[moveDown'_eq]
 have hsz:src<(arrOf st).size:=by rw[B.size]; exact h3
 refine wpS_modify (h _ ⟨⟨B.kind,B.failed,(bubble_perm _ _ _).trans B.perm⟩,rfl,fun k hk=>?_⟩ fun k=>?_)
 ·show (bubble (arrOf st) src (src - dst))[k]? = _
  rw[getElem?_bubble hsz _ (by omega),if_neg (by omega),if_neg (by omega)]
 ·show ((bubble (arrOf st) src (src - dst))[k]?).map (kk κ)=_
  rw[getElem?_bubble hsz _ (by omega),show src - (src - dst)=dst by omega]
  split
  ·rfl
  ·split <;> rfl
theorem Do (hO:κ.OneLt) (h0:KeysOf κ a₀) {st:SortSt} (B:SB κ a₀ st) {lo n ok:Nat} (h1:1<=ok) (h2:ok<=n) (hn:lo+n<=a₀.size) (u:Up κ (arrOf st) lo (lo+ok)) {Q:Bool->SortSt->Prop} (h:∀ st',Keep κ a₀ lo st st'->Up κ (arrOf st') lo (lo+n)->Q true st'):wpS (model prog w) A E s (binarySort' lo n ok) Q st:=by
 rw[binarySort'_eq]
 refine wpS_bind (wpS_mono (wpS_forRange (I:=fun k c st'=>c=(none,())/\Keep κ a₀ lo st st'/\Up κ (arrOf st') lo (lo+k)) (Q:=fun c st'=>c=(none,())/\Keep κ a₀ lo st st'/\Up κ (arrOf st') lo (lo+n)) ?step ?fin ?init) ?post)
 case init=>
  rw[show max ok 1=ok by omega]
  exact⟨rfl,Keep.refl B,u⟩
 case fin=>
  rintro c st' ⟨rfl,k,u⟩
  rw[show max (max ok 1) n=n by omega]at u
  exact⟨rfl,k,u⟩
 case post=>
  rintro c st' ⟨rfl,k,u⟩
  exact wpS_pure (h st' k u)
 case step=>
  rintro k c st' hk1 hk2 ⟨rfl,K,u⟩
  dsimp only
  obtain⟨py,epy⟩:=bA (show lo+k<(arrOf st').size by rw[K.sb.size]; omega)
  have ey:=yU (κ:=κ) epy
  generalize kk κ py=y at ey
  refine wpS_bind (wpS_mono (wpS_forRange (I:=fun x c st''=>st''=st'/\∃ l r,c=(none,l,r)/\l<=r/\r<=k/\r - l<=k - x/\(∀ i z,i<l->kAt κ (arrOf st') (lo+i)=some z->κ.kle z y)/\(∀ i z,r<=i->i<k->kAt κ (arrOf st') (lo+i)=some z->κ.klt y z))
   (Q:=fun c st''=>st''=st'/\∃ l,c=(none,l,l)/\l<=k/\(∀ i z,i<l->kAt κ (arrOf st') (lo+i)=some z->κ.kle z y)/\(∀ i z,l<=i->i<k->kAt κ (arrOf st') (lo+i)=some z->κ.klt y z)) ?istep ?ifin ⟨rfl,0,k,rfl,by omega,by omega,by omega,fun i z hi=>by omega,fun i z h1 h2=>by omega⟩) ?ipost)
  case ifin=>
   rintro c st'' ⟨rfl,l,r,rfl,b1,b2,b3,b4,b5⟩
   have:l=r:=by omega
   subst this
   exact⟨rfl,l,rfl,b2,b4,b5⟩
  case istep=>
   rintro x c st'' _ hx ⟨rfl,l,r,rfl,b1,b2,b3,b4,b5⟩
   dsimp only
   by_cases hlr:l ≥ r
   ·rw[if_pos hlr]
    have:l=r:=by omega
    subst this
    exact wpS_pure ⟨rfl,l,rfl,b2,b4,b5⟩
   ·rw[if_neg hlr]
    refine wpS_bind (mL hO h0 K.sb (by omega) (by omega) fun y' z ey' ez=>?_)
    rw[ey]at ey'
    cases ey'
    cases hb:κ.blt y z with
    | true=>
     dsimp only
     rw[if_pos rfl]
     refine wpS_pure ⟨rfl,l,(l+r) / 2,rfl,by omega,by omega,by omega,b4,fun i z' h1 h2 e=>?_⟩
     exact KeyOrd.klt_of_klt_of_kle hb (u (lo+(l+r) / 2) (lo+i) z z' (by omega) (by omega) (by omega) ez e)
    | false=>
     dsimp only
     rw[if_neg (by decide)]
     refine wpS_pure ⟨rfl,(l+r) / 2+1,r,rfl,by omega,by omega,by omega,fun i z' h1 e=>?_,b5⟩
     exact KeyOrd.kle_trans (u (lo+i) (lo+(l+r) / 2) z' z (by omega) (by omega) (by omega) e ez) hb
  case ipost=>
   rintro c st'' ⟨rfl,l,rfl,b2,b4,b5⟩
   dsimp only
   refine wpS_bind (Fi (lo:=lo) K.sb (by omega) (by omega) (by omega) fun st2 k2 c2=>wpS_pure ⟨rfl,K.trans k2,fun i j z1 z2 g1 g2 g3 e1 e2=>?_⟩)
   rw[c2]at e1 e2
   by_cases i1:i=lo+l
   ·rw[if_pos i1,ey]at e1
    cases e1
    by_cases j1:j=lo+l
    ·rw[if_pos j1,ey]at e2
     cases e2
     exact KeyOrd.kle_refl _
    ·rw[if_neg j1,if_pos (by omega)]at e2
     exact KeyOrd.kle_of_klt (b5 (j - 1 - lo) z2 (by omega) (by omega) (by rw[show lo+(j - 1 - lo)=j - 1 by omega]; exact e2))
   ·rw[if_neg i1]at e1
    by_cases i2:lo+l<i/\i<=lo+k
    ·rw[if_pos i2]at e1
     rw[if_neg (by omega),if_pos (by omega)]at e2
     exact u (i - 1) (j - 1) z1 z2 (by omega) (by omega) (by omega) e1 e2
    ·rw[if_neg i2]at e1
     by_cases j1:j=lo+l
     ·rw[if_pos j1,ey]at e2
      cases e2
      exact b4 (i - lo) z1 (by omega) (by rw[show lo+(i - lo)=i by omega]; exact e1)
     ·rw[if_neg j1]at e2
      by_cases j2:lo+l<j/\j<=lo+k
      ·rw[if_pos j2]at e2
       exact u i (j - 1) z1 z2 g1 (by omega) (by omega) e1 e2
      ·rw[if_neg j2]at e2
       exact u i j z1 z2 g1 g2 (by omega) e1 e2
end
def mK:Nat->List (Nat × Nat × Nat)->Nat->Prop
 | t,[],e=>t=e
 | t,r::rs,e=>r.1=t/\0<r.2.1/\mK (t+r.2.1) rs e
theorem kG:∀ {l1 l2:List (Nat × Nat × Nat)} {t e:Nat},mK t (l1++l2) e ↔ ∃ m,mK t l1 m/\mK m l2 e
 | [],l2,t,e=>⟨fun h=>⟨t,rfl,h⟩,fun⟨m,h1,h2⟩=>by cases (show t=m from h1); exact h2⟩
 | r::l1,l2,t,e=>by
  constructor
  ·rintro ⟨h1,h2,h3⟩
   obtain⟨m,h4,h5⟩:=kG.mp h3
   exact⟨m,⟨h1,h2,h4⟩,h5⟩
  ·rintro ⟨m,⟨h1,h2,h4⟩,h5⟩
   exact⟨h1,h2,kG.mpr ⟨m,h4,h5⟩⟩
theorem kF:∀ {l:List (Nat × Nat × Nat)} {t e:Nat},mK t l e->t+l.length<=e/\∀ r∈l,t<=r.1/\r.1+r.2.1<=e
 | [],t,e,h=>⟨by cases (show t=e from h); simp,fun r hr=>by simp at hr⟩
 | q::l,t,e,⟨h1,h2,h3⟩=>by
  obtain⟨i1,i2⟩:=kF h3
  refine⟨by rw[length_cons]; omega,fun r hr=>?_⟩
  rcases mem_cons.mp hr with z | z
  ·subst z
   omega
  ·have:=i2 r z
   omega
theorem rF:∀ {l l':List (Nat × Nat × Nat)} {t e:Nat},l.map (fun r=>(r.1,r.2.1))=l'.map (fun r=>(r.1,r.2.1))->mK t l e->mK t l' e
 | [],[],_,_,_,h=>h
 | r::l,r'::l',t,e,hm,⟨h1,h2,h3⟩=>by
  rw[map_cons,map_cons]at hm
  injection hm with hm1 hm2
  injection hm1 with ha hb
  exact⟨ha ▸ h1,hb ▸ h2,by rw[<- hb]; exact rF hm2 h3⟩
 | [],_::_,_,_,hm,_=>by simp at hm
 | _::_,[],_,_,hm,_=>by simp at hm
structure RB (κ : KeyKind) (a₀ : Array Keyed) (st:SortSt) (lo:Nat):Prop where
 sb:SB κ a₀ st
 chain:mK 0 (pendingOf st).toList lo
 runs:∀ r∈(pendingOf st).toList,SR κ (arrOf st) r.1 (r.1+r.2.1)
 le:lo<=a₀.size
theorem Up.same {κ : KeyKind} {xs ys:Array Keyed} {lo hi:Nat} (h:Up κ xs lo hi) (e:∀ j,lo<=j->ys[j]? = xs[j]?):Up κ ys lo hi:=fun i j x y h1 h2 h3 ex ey=>h i j x y h1 h2 h3 (by unfold kAt at ex ⊢; rw[<- e i h1]; exact ex) (by unfold kAt at ey ⊢; rw[<- e j (by omega)]; exact ey)
theorem SR.same {κ : KeyKind} {xs ys:Array Keyed} {lo hi:Nat} (h:SR κ xs lo hi) (e:∀ j,lo<=j->j<hi->ys[j]? = xs[j]?):SR κ ys lo hi:=fun i j p q h1 h2 h3 ep eq=>h i j p q h1 h2 h3 (by rw[<- e i h1 (by omega)]; exact ep) (by rw[<- e j (by omega) h3]; exact eq)
theorem RB.push {κ : KeyKind} {a₀ : Array Keyed} {st:SortSt} {lo n:Nat} (R:RB κ a₀ st lo) (u:Up κ (arrOf st) lo (lo+n)) (h1:1<=n) (h2:lo+n<=a₀.size):RB κ a₀ (setPending st ((pendingOf st).push (lo,n,0))) (lo+n):=by
 refine⟨⟨R.sb.kind,R.sb.failed,R.sb.perm⟩,?_,fun r hr=>?_,h2⟩
 ·show mK 0 ((pendingOf st).push (lo,n,0)).toList (lo+n)
  rw[toList_push]
  exact kG.mpr ⟨lo,R.chain,rfl,h1,rfl⟩
 ·have hr:r∈((pendingOf st).push (lo,n,0)).toList:=hr
  rw[toList_push,mem_append]at hr
  rcases hr with hr | hr
  ·exact R.runs r hr
  ·rw[mem_singleton.mp hr]
   exact u.sr
theorem RB.repow {κ : KeyKind} {a₀ : Array Keyed} {st:SortSt} {lo pw:Nat} (R:RB κ a₀ st lo):RB κ a₀ (setPending st ((pendingOf st).modify ((pendingOf st).size - 1) fun(x,y,_)=>(x,y,pw))) lo:=by
 have em:((pendingOf st).modify ((pendingOf st).size - 1) fun(x,y,_)=>(x,y,pw)).toList.map (fun r=>(r.1,r.2.1))=(pendingOf st).toList.map (fun r=>(r.1,r.2.1)):=by
  apply ext_getElem?
  intro i
  rw[getElem?_map,getElem?_map,getElem?_toList,getElem?_toList,Array.getElem?_modify]
  split
  ·cases (pendingOf st)[i]? <;> rfl
  ·rfl
 refine⟨⟨R.sb.kind,R.sb.failed,R.sb.perm⟩,rF em.symm R.chain,fun r hr=>?_,R.le⟩
 have:(r.1,r.2.1)∈((pendingOf st).modify ((pendingOf st).size - 1) fun(x,y,_)=>(x,y,pw)).toList.map (fun r=>(r.1,r.2.1)):=mem_map_of_mem (f:=fun r:Nat × Nat × Nat=>(r.1,r.2.1)) hr
 rw[em,mem_map]at this
 obtain⟨q,hq,e⟩:=this
 injection e with e1 e2
 have:=R.runs q hq
 rw[e1,e2]at this
 exact this
section
variable {prog:Program} {w:World} {A:Around} {E:Value->Shared->Prop} {s:Shared} {κ : KeyKind} {a₀ : Array Keyed}
theorem uA (hO:κ.OneLt) (h0:KeysOf κ a₀) {st:SortSt} {lo i:Nat} (R:RB κ a₀ st lo) (hi:i+1<(pendingOf st).size) {Q:Bool->SortSt->Prop}
  (h:∀ st',RB κ a₀ st' lo->(pendingOf st').size+1=(pendingOf st).size->(∀ j,lo<=j->(arrOf st')[j]? = (arrOf st)[j]?)->Q true st'):wpS (model prog w) A E s (mergeAt' i) Q st:=by
 have hl:i+1<(pendingOf st).toList.length:=by rw[length_toList]; exact hi
 have spl:(pendingOf st).toList=(pendingOf st).toList.take i++(pendingOf st).toList[i]::(pendingOf st).toList[i+1]::(pendingOf st).toList.drop (i+2):=by
  rw[<- drop_eq_getElem_cons hl,<- drop_eq_getElem_cons (show i<_ by omega),take_append_drop]
 have e1:(pendingOf st)[i]? = some (pendingOf st).toList[i]:=by rw[<- getElem?_toList,getElem?_eq_getElem]
 have e2:(pendingOf st)[i+1]? = some (pendingOf st).toList[i+1]:=by rw[<- getElem?_toList,getElem?_eq_getElem]
 have hlt:((pendingOf st).toList.take i).length=i:=by rw[length_take]; omega
 have hset:∀ x,(((pendingOf st).setIfInBounds i x).eraseIdxIfInBounds (i+1)).toList=(pendingOf st).toList.take i++x::(pendingOf st).toList.drop (i+2):=fun x=>by
  rw[Array.toList_eraseIdxIfInBounds,Array.toList_setIfInBounds,List.eraseIdx_eq_take_drop_succ,List.drop_set_of_lt (by omega)]
  have:((pendingOf st).toList.set i x).take (i+1)=(pendingOf st).toList.take i++[x]:=by
   rw[List.take_add_one,List.take_set_of_le (le_refl _),List.getElem?_set_self (by omega)]
   rfl
  rw[this,append_assoc]
  rfl
 generalize (pendingOf st).toList[i]=r1 at spl e1
 generalize (pendingOf st).toList[i+1]=r2 at spl e2
 generalize (pendingOf st).toList.take i=pre at spl hlt hset
 generalize (pendingOf st).toList.drop (i+2)=post at spl hset
 obtain⟨u,n,p1⟩:=r1
 obtain⟨v,m,p2⟩:=r2
 have ch:=R.chain
 rw[spl]at ch
 obtain⟨t,c1,c2,c3,c4,c5,c6⟩:=kG.mp ch
 have c2:u=t:=c2
 have c4:v=t+n:=c4
 subst c2
 subst c4
 have c3:0<n:=c3
 have c5:0<m:=c5
 have c6:mK (u+n+m) post lo:=c6
 obtain⟨i1,i2⟩:=kF c6
 obtain⟨i3,i4⟩:=kF c1
 have le:=R.le
 refine Bd hO h0 R.sb e1 e2 c3 c5 (by omega) (R.runs (u,n,p1) (by rw[spl]; simp)) (R.runs (u+n,m,p2) (by rw[spl]; simp)) fun st' B' pe' sr' out=>h st' ⟨B',?_,fun r hr=>?_,R.le⟩ ?_ fun j hj=>out j (.inr (by omega))
 ·rw[pe',hset]
  exact kG.mpr ⟨u,c1,rfl,by show 0<n+m; omega,by show mK (u+(n+m)) post lo; rw[show u+(n+m)=u+n+m by omega]; exact c6⟩
 ·rw[pe',hset,mem_append]at hr
  rcases hr with hr | hr
  ·have:=i4 r hr
   exact(R.runs r (by rw[spl]; simp [hr])).same fun j h1 h2=>out j (.inl (by omega))
  ·rcases mem_cons.mp hr with z | hr
   ·rw[z]
    show SR κ (arrOf st') u (u+(n+m))
    rw[show u+(n+m)=u+n+m by omega]
    exact sr'
   ·have:=i2 r hr
    exact(R.runs r (by rw[spl]; simp [hr])).same fun j h1 h2=>out j (.inr (by omega))
 ·have z1:=congrArg List.length (hset (u,n+m,p1))
  have z2:=congrArg List.length spl
  rw[<- pe',length_toList]at z1
  rw[length_toList]at z2
  rw[z1,z2]
  simp
  omega
theorem Hf (c:Prop) [Decidable c] (i:Nat):(if c then i - 1 else i)<=i:=by
 split
 ·omega
 ·exact le_refl _
theorem zN (hO:κ.OneLt) (h0:KeysOf κ a₀) {st:SortSt} (B:SB κ a₀ st) (hp:pendingOf st = #[]) (h2:2<=a₀.size) {Q:Unit->SortSt->Prop}
  (h:∀ st',(arrOf st').Perm a₀->failedOf st'=none->SR κ (arrOf st') 0 a₀.size->Q () st'):wpS (model prog w) A E s sortRuns' Q st:=by
 rw[sortRuns'_eq]
 refine wpS_bind (wpS_get ?_)
 dsimp only
 rw[B.size]
 generalize minRun' a₀.size a₀.size 0=mr
 refine wpS_bind (wpS_mono (wpS_forRange (I:=fun x c st'=>∃ lo,c=(none,lo)/\RB κ a₀ st' lo/\x<=lo/\lo<=a₀.size) (Q:=fun c st'=>∃ lo,c=(none,lo)/\RB κ a₀ st' lo/\lo=a₀.size) ?step ?fin ⟨0,rfl,⟨B,by rw[hp]; rfl,fun r hr=>by rw[hp]at hr; simp at hr,zero_le _⟩,le_refl _,zero_le _⟩) ?post)
 case fin=>
  rintro c st' ⟨lo,rfl,R,l1,l2⟩
  exact⟨lo,rfl,R,by omega⟩
 case step=>
  rintro x c st' _ hx ⟨lo,rfl,R,l1,l2⟩
  dsimp only
  by_cases hlo:lo ≥ a₀.size
  ·rw[if_pos hlo]
   exact wpS_pure ⟨lo,rfl,R,by omega⟩
  rw[if_neg hlo]
  refine wpS_bind (Ah hO h0 R.sb (by omega) (by omega) fun n st1 k1 n1 n2 u1=>?_)
  have R1:RB κ a₀ st1 lo:=by
   refine⟨k1.sb,by rw[k1.pend]; exact R.chain,fun r hr=>?_,R.le⟩
   rw[k1.pend]at hr
   have:=(kF R.chain).2 r hr
   exact(R.runs r hr).same fun j h1 h2=>k1.low j (by omega)
  dsimp only
  by_cases hmr:n<mr
  ·rw[if_pos hmr]
   refine wpS_bind (wpS_lift (wpAny_rule ⟨rfl,?_⟩))
   refine wpS_bind (Do hO h0 k1.sb n1 (by omega) (by omega) u1 fun st2 k2 u2=>?_)
   rw[if_neg (by decide)]
   have R2:RB κ a₀ st2 lo:=by
    refine⟨k2.sb,by rw[k2.pend]; exact R1.chain,fun r hr=>?_,R.le⟩
    rw[k2.pend]at hr
    have:=(kF R1.chain).2 r hr
    exact(R1.runs r hr).same fun j h1 h2=>k2.low j (by omega)
   have n3:1<=min (a₀.size - lo) mr:=by omega
   have n4:lo+min (a₀.size - lo) mr<=a₀.size:=by omega
   generalize min (a₀.size - lo) mr=n' at u2 n3 n4 ⊢
   refine wpS_bind (wpS_get ?_)
   cases hb:(pendingOf st2).back? with
   | none=>
    dsimp only
    refine wpS_bind (wpS_modify (wpS_pure ⟨_,rfl,R2.push u2 n3 n4,by omega,by omega⟩))
   | some r=>
    obtain⟨sx,nx,px⟩:=r
    dsimp only
    refine wpS_bind (wpS_mono (wpS_forRange (I:=fun _ c st'=>c=(none,())/\RB κ a₀ st' lo/\Up κ (arrOf st') lo (lo+n')) (Q:=fun c st'=>c=(none,())/\RB κ a₀ st' lo/\Up κ (arrOf st') lo (lo+n')) ?sm (fun _ _ hh=>hh) ⟨rfl,R2,u2⟩) ?pm)
    case sm=>
     rintro y c st' _ _ ⟨rfl,R,U⟩
     refine wpS_bind (wpS_get ?_)
     by_cases hp:(pendingOf st').size > 1
     ·rw[if_pos hp]
      have e2:(pendingOf st')[(pendingOf st').size - 2]? = some (pendingOf st')[(pendingOf st').size - 2]:=getElem?_pos _ _ (by omega)
      rw[e2]
      generalize (pendingOf st')[(pendingOf st').size - 2]=r2
      obtain⟨x1,x2,x3⟩:=r2
      dsimp only
      split
      ·exact wpS_pure ⟨rfl,R,U⟩
      ·refine wpS_bind (uA hO h0 R (by omega) fun st2 R2 _ k2=>?_)
       rw[if_neg (by decide)]
       exact wpS_pure ⟨rfl,R2,U.same k2⟩
     ·rw[if_neg hp]
      exact wpS_pure ⟨rfl,R,U⟩
    case pm=>
     rintro c st' ⟨rfl,R,U⟩
     dsimp only
     refine wpS_bind (wpS_modify (wpS_bind (wpS_modify (wpS_pure ⟨_,rfl,(R.repow).push U n3 n4,by omega,by omega⟩))))
  ·rw[if_neg hmr]
   refine wpS_bind (wpS_get ?_)
   cases hb:(pendingOf st1).back? with
   | none=>
    dsimp only
    refine wpS_bind (wpS_modify (wpS_pure ⟨_,rfl,R1.push u1 n1 (by omega),by omega,by omega⟩))
   | some r=>
    obtain⟨sx,nx,px⟩:=r
    dsimp only
    refine wpS_bind (wpS_mono (wpS_forRange (I:=fun _ c st'=>c=(none,())/\RB κ a₀ st' lo/\Up κ (arrOf st') lo (lo+n)) (Q:=fun c st'=>c=(none,())/\RB κ a₀ st' lo/\Up κ (arrOf st') lo (lo+n)) ?sm (fun _ _ hh=>hh) ⟨rfl,R1,u1⟩) ?pm)
    case sm=>
     rintro y c st' _ _ ⟨rfl,R,U⟩
     refine wpS_bind (wpS_get ?_)
     by_cases hp:(pendingOf st').size > 1
     ·rw[if_pos hp]
      have e2:(pendingOf st')[(pendingOf st').size - 2]? = some (pendingOf st')[(pendingOf st').size - 2]:=getElem?_pos _ _ (by omega)
      rw[e2]
      generalize (pendingOf st')[(pendingOf st').size - 2]=r2
      obtain⟨x1,x2,x3⟩:=r2
      dsimp only
      split
      ·exact wpS_pure ⟨rfl,R,U⟩
      ·refine wpS_bind (uA hO h0 R (by omega) fun st2 R2 _ k2=>?_)
       rw[if_neg (by decide)]
       exact wpS_pure ⟨rfl,R2,U.same k2⟩
     ·rw[if_neg hp]
      exact wpS_pure ⟨rfl,R,U⟩
    case pm=>
     rintro c st' ⟨rfl,R,U⟩
     dsimp only
     refine wpS_bind (wpS_modify (wpS_bind (wpS_modify (wpS_pure ⟨_,rfl,(R.repow).push U n1 (by omega),by omega,by omega⟩))))
 case post=>
  rintro c st' ⟨lo,rfl,R,rfl⟩
  dsimp only
  have hlen:=(kF R.chain).1
  rw[length_toList]at hlen
  refine wpS_bind (wpS_mono (wpS_forRange (I:=fun x c st'=>c=(none,())/\RB κ a₀ st' a₀.size/\((pendingOf st').size<=1\/(pendingOf st').size+x<=a₀.size)) (Q:=fun c st'=>c=(none,())/\RB κ a₀ st' a₀.size/\(pendingOf st').size<=1) ?s2 ?f2 ⟨rfl,R,.inr (by omega)⟩) ?p2)
  case f2=>
   rintro c st' ⟨rfl,R,hh⟩
   exact⟨rfl,R,by omega⟩
  case s2=>
   rintro x c st' _ hx ⟨rfl,R,hh⟩
   refine wpS_bind (wpS_get ?_)
   by_cases hp1:(pendingOf st').size<=1
   ·rw[if_pos hp1]
    exact wpS_pure ⟨rfl,R,hp1⟩
   rw[if_neg hp1]
   refine wpS_bind (uA hO h0 R ?_ fun st2 R2 z2 _=>?_)
   ·exact Nat.lt_of_le_of_lt (Nat.add_le_add_right (Hf _ _) 1) (by omega)
   ·rw[if_neg (by decide)]
    exact wpS_pure ⟨rfl,R2,by omega⟩
  case p2=>
   rintro c st' ⟨rfl,R,hp1⟩
   refine wpS_pure (h st' R.sb.perm R.sb.failed ?_)
   have ch:=R.chain
   have ru:=R.runs
   have hl:(pendingOf st').toList.length<=1:=by rw[length_toList]; exact hp1
   generalize (pendingOf st').toList=L at ch ru hl
   match L,hl with
   | [],_=>
    have:0=a₀.size:=ch
    omega
   | [r],_=>
    obtain⟨c1,c2,c3⟩:=ch
    have c3:0+r.2.1=a₀.size:=c3
    have:=ru r (by simp)
    rw[c1,c3]at this
    exact this
end
end TS
end
section
namespace TS
open PySem PyProof.Rows
theorem SR.toK {κ : KeyKind} {xs:Array Keyed} {n:Nat} (h:SR κ xs 0 n) (hn:n<=xs.size):SortedToK κ xs n:=fun i j hij hj=>by
 obtain⟨p,ep⟩:=bA (show i<xs.size by omega)
 obtain⟨q,eq⟩:=bA (show j<xs.size by omega)
 have:=h i j p q (zero_le _) hij hj ep eq
 unfold KK
 rw[ep,eq]
 exact this
section
variable {prog:Program} {w:World} {A:Around} {E:Value->Shared->Prop} {s:Shared} {κ : KeyKind}
theorem pM (hO:κ.OneLt) {a:Addr} {vs:List Value} {n:Nat} {P:PySem.Fin->Shared->Prop} (ho:s.heap.get? a=some (seqObj "list" vs.toArray n)) (h0:KeysOf κ (pairsOf vs)) (hkk:keyKind' vs.toArray=pure oneType') (h2:2<=vs.length) (hz:vs.length<=sizeLine)
  (h:∀ st':SortSt,(arrOf st').Perm (pairsOf vs)->SortedToK κ (arrOf st') (pairsOf vs).size->P (.done (.ret .none)) { s with heap:=sortedHeap s.heap a vs ((arrOf st').map (·.2)) }):wpAny (model prog w) A (Builtin.«list.sort» ⟨[.ref a],[]⟩) P E s:=by
 have ha:a<s.heap.objs.size:=lt_size ho; have hza:vs.toArray.size=vs.length:=by simp
 rw[list_sort_plain]; refine wpAny_bind (listItems_at ho rfl (wpAny_bind (listUpdate_at ho rfl ?_ (by rw[hza]; exact hz))))
 have ho1:=get?_update_seq ho (fun _=>#[])
 generalize (if ((fun _=>#[]:Array Value->Array Value) vs.toArray).size == vs.toArray.size then n else n+1)=e1 at ho1
 refine wpAny_bind (seqEpoch_at ho1 rfl (wpAny_bind (wpAny_newTuple (wpAny_bind (wpAny_newList (wpAny_holding ?_))) (by simpa using hz))))
 generalize eh6:((s.heap.update a (Obj.mapSeq fun _=>#[])).push (seqObj "tuple" vs.toArray 0)).push (seqObj "list" #[] 0)=h6
 have ho6:h6.get? a=some (seqObj "list" #[] e1):=by
  rw[<- eh6,Heap.get?_push_ne _ _ _ (by rw[size_push',Heap.size_update]; exact ne_of_lt (lt_succ_of_lt ha)),Heap.get?_push_ne _ _ _ (by rw[Heap.size_update]; exact ne_of_lt ha)]; exact ho1
 have h2':¬ vs.toArray.size<2:=by rw[hza]; omega
 show wpAny (model prog w) A _ P E { s with heap:=h6 }
 dsimp only; rw[if_neg h2',if_neg h2',hkk]
 refine wpAny_bind (wpAny_pure ?_)
 have fin:∀ st':SortSt,(arrOf st').Perm (pairsOf vs)->SortedToK κ (arrOf st') (pairsOf vs).size->P (.done (.ret .none)) { s with heap:=h6.update a (Obj.mapSeq fun _=>(arrOf st').map (·.2)) }:=fun st' a1 a2=>by
  have:=h st' a1 a2
  unfold sortedHeap at this
  rw[eh6]at this
  exact this
 refine wpAny_bind (wpAny_mono (zN (κ:=κ) hO (a₀:=pairsOf vs) (st:=SortSt.mk' oneType' (vs.toArray.zip vs.toArray) #[] 7 none) (Q:=fun _ st'=>(arrOf st').Perm (pairsOf vs)/\failedOf st'=none/\SR κ (arrOf st') 0 (pairsOf vs).size) h0 ⟨rfl,rfl,Array.Perm.refl _⟩ rfl (by rw[pairsOf_size]; exact h2) fun st' a1 a2 a3=>⟨a1,a2,a3⟩) ?_ fun _ _ e=>e)
 rintro ⟨⟨⟩,st'⟩ s' ⟨rfl,hp,hf,hs⟩
 have zo:((arrOf st').map (·.2)).size=vs.length:=by rw[Array.size_map,hp.size_eq,pairsOf_size]
 dsimp only; refine wpAny_bind (seqEpoch_at ho6 rfl (wpAny_bind (listUpdate_at ho6 rfl ?_ (by show 0<=sizeLine; omega) (by show ((arrOf st').map (·.2)).size<=sizeLine+1; omega))))
 rw[hf]; simp only[bne_self_eq_false,Bool.false_eq_true,if_false]
 exact wpAny_pure (fin st' hp (hs.toK (by rw[hp.size_eq]; exact le_refl _)))
end
end TS
namespace TS
open PySem PyProof.Rows
noncomputable def rV:KeyKind where
 α:=Int
 blt a b:=decide (a<b)
 irrefl a:=decide_eq_false (Int.lt_irrefl a)
 trans a b c h1 h2:=decide_eq_true (Int.lt_trans (of_decide_eq_true h1) (of_decide_eq_true h2))
 negTrans a b c h:=by
  have h:=of_decide_eq_true h
  by_cases z:a<b
  ·exact .inl (decide_eq_true z)
  ·exact .inr (decide_eq_true (by omega))
 total a b h1 h2:=by
  have h1:=of_decide_eq_false h1
  have h2:=of_decide_eq_false h2
  omega
 keyOf v:=match v with
  | .int n _=>some n
  | _=>none
 dflt:=0
theorem Et:rV.OneLt:=by
 intro prog w A E s x y a b Q hx hy q
 cases x with
 | int n t=>
  cases y with
  | int m u=>
   cases (show some n=some a from hx)
   cases (show some m=some b from hy)
   exact oneLt_int q
  | _=>cases hy
 | _=>cases hx
theorem AE {vs:List Value} {ns:List Int} (h:IntsAre vs ns):KeysOf rV (pairsOf vs):=fun p hp=>by
 obtain⟨n,t,e⟩:=h.intKeys p hp
 exact⟨n,by rw[e]; rfl⟩
theorem tZ {xs:Array Keyed} {n:Nat} (h:SortedToK rV xs n):SortedTo xs n:=fun i j hij hj=>by
 have:=h i j hij hj
 have e:∀ k,KK rV xs k=K xs k:=fun k=>by
  unfold KK K
  cases xs[k]? with
  | none=>rfl
  | some p=>
   dsimp only
   cases p.1 <;> rfl
 rw[e,e]at this
 have this:decide (K xs j<K xs i)=false:=this
 have:=of_decide_eq_false this
 omega
end TS
namespace L2
open PySem PySem.Spec PyProof.Rows
section
variable {X:Cx}
def zW:List V->Hp->VK->Prop:=fun xs H Q=>∃ d kvs ns,xs=[.ref d]/\H d=some (.dK kvs)/\kvs.map (·.1)=ns.map Sum.inl/\ns.length<=100000/\
 ∀ p ms,List.Perm ms ns->ms.Pairwise (· <= ·)->H p=none->Q (.ref p) (upd H p (.lst (ms.map .int)))
theorem lJ (hc:X.calm=true):eY X (.builtin "sorted") zW:=by
 intro pins s σ H xs us Q I r h
 obtain⟨d,kvs,ns,rfl,hd,hk,hl,q⟩:=h
 by_cases h64:ns.length<64
 ·exact zD hc pins s σ H _ us Q I r ⟨d,kvs,ns,rfl,hd,hk,h64,q⟩
 have hl':ns.length<=sizeLine:=le_trans hl (by decide)
 cases r with
 | cons r1 r2=>
  cases r2
  cases (show _=Value.ref d from r1)
  obtain⟨hz,hsm,vs,rel,o,es,ep,dd⟩:=wZ I.hok hd
  have hh:X.A.in1.handled=none:=I.ok.hd hc
  have hlen:vs.length=ns.length:=by
   have h1:=rel.length
   have h2:=congrArg List.length hk
   rw[length_map,length_map]at h2
   omega
  have hkv:vs.map (·.1)=ns.map Sum.inl:=by rw[<- rW rel]; exact hk
  refine wpAny_call (codeAny_call_builtin plain_sorted entry_sorted (wpAny_of_eq (iA _) ?_))
  show wpAny _ _ (checkCount "sorted" 1 1 1 >>= _) _ _ s
  refine wpAny_bind (wpAny_of_eq (a:=()) (by rfl) ?_)
  refine wpAny_bind (kdu_collect (kdl_dict (knd:=cE X.prog X.w) (kvs:=vs) (ep:=ep) hsm) hh ⟨o,es,dd⟩ (by rw[hlen]; exact hl') fun h' tk acc keep hit=>?_)
  have hacc:acc.toList.length=vs.length:=by
   have:=hit.1
   simpa using this
  have hints:IntsAre acc.toList ns:=wM (prog:=X.prog) (w:=X.w) hkv hacc fun j v hv=>hit.2 j v (by simpa using hv)
  refine wpAny_bind (wpAny_newList ?_ (by rw[hacc,hlen]; exact hl'))
  generalize eh2:h'.push { cls:=.type "list",data:=.seq acc.toList.toArray }=h2
  have g2:h2.get? h'.objs.size=some (seqObj "list" acc.toList.toArray 0):=by
   rw[<- eh2]
   exact get?_push_size _ rfl
  refine wpAny_bind (wpAny_holding ?_)
  refine wpAny_call_entry (T:="list") PyProof.Rows.slot_list_sort ⟨_,g2,rfl⟩ PyProof.Rows.entry_list_sort ?_ (PyProof.Rows.args_list_sort _)
  have hkk:keyKind' acc.toList.toArray=pure oneType':=by
   match hq:acc.toList,hints,hacc with
   | [],_,hacc=>rw[hlen]at hacc; simp at hacc; omega
   | [_],_,hacc=>rw[hlen]at hacc; simp at hacc; omega
   | v₁ :: v₂ :: rest,hints,_=>exact keyKind_ints hints
  refine TS.pM TS.Et g2 (TS.AE hints) hkk (by rw[hacc,hlen]; omega) (by rw[hacc,hlen]; exact hl') fun st' p1 p2=>?_
  obtain⟨ms,hout,perm,pw⟩:=sorted_out hints p1 (TS.tZ p2)
  generalize (arrOf st').map (fun x=>x.snd)=out at hout
  refine⟨_,rfl,wpAny_pure ?_⟩
  obtain⟨ep2,gat⟩:=sortedHeap_at (h:=h2) (a:=h'.objs.size) (vs:=acc.toList) (out:=out) g2
  have hf:H h'.objs.size=none:=(I.kept (t':=tk) keep).hok.fresh (le_refl _)
  refine⟨.ref h'.objs.size,upd H h'.objs.size (.lst (ms.map .int)),(I.kept (t':=tk) keep).laid (t':=tk) (fun b u e=>?_) (le_refl _) ?_,rfl,q _ ms perm pw hf⟩
  ·have hb:b<h'.objs.size:=lt_size e
   have h2s:h2.objs.size=h'.objs.size+1:=by rw[<- eh2]; exact size_push _ _
   rw[sortedHeap_old (ne_of_lt hb) (by rw[h2s]; exact lt_succ_of_lt hb),<- eh2]
   exact get?_push_of_some _ e
  ·refine⟨?_,out.toList,ep2,jH hout,?_⟩
   ·rw[length_map,perm.length_eq]
    exact hl'
   ·simpa [seqObj] using gat
def EN:List V->Hp->VK->Prop:=fun xs H Q=>∃ d kvs ns,xs=[.ref d]/\H d=some (.dK kvs)/\kvs.map (·.1)=ns.map Sum.inr/\ns.length<=100000/\
 ∀ p ms,List.Perm ms ns->sortedS ms=true->H p=none->Q (.ref p) (upd H p (.lst (ms.map .str)))
theorem zB (hc:X.calm=true):eY X (.builtin "sorted") EN:=by
 intro pins s σ H xs us Q I r h
 obtain⟨d,kvs,ns,rfl,hd,hk,hl,q⟩:=h
 by_cases h64:ns.length<64
 ·exact zC hc pins s σ H _ us Q I r ⟨d,kvs,ns,rfl,hd,hk,h64,q⟩
 have hl':ns.length<=sizeLine:=le_trans hl (by decide)
 cases r with
 | cons r1 r2=>
  cases r2
  cases (show _=Value.ref d from r1)
  obtain⟨hz,hsm,vs,rel,o,es,ep,dd⟩:=wZ I.hok hd
  have hh:X.A.in1.handled=none:=I.ok.hd hc
  have hlen:vs.length=ns.length:=by
   have h1:=rel.length
   have h2:=congrArg List.length hk
   rw[length_map,length_map]at h2
   omega
  have hkv:vs.map (·.1)=ns.map Sum.inr:=by rw[<- rW rel]; exact hk
  refine wpAny_call (codeAny_call_builtin plain_sorted entry_sorted (wpAny_of_eq (iA _) ?_))
  show wpAny _ _ (checkCount "sorted" 1 1 1 >>= _) _ _ s
  refine wpAny_bind (wpAny_of_eq (a:=()) (by rfl) ?_)
  refine wpAny_bind (kdu_collect (kdl_dict (knd:=cE X.prog X.w) (kvs:=vs) (ep:=ep) hsm) hh ⟨o,es,dd⟩ (by rw[hlen]; exact hl') fun h' tk acc keep hit=>?_)
  have hacc:acc.toList.length=vs.length:=by
   have:=hit.1
   simpa using this
  have hstrs:StrsAre acc.toList ns:=wL (prog:=X.prog) (w:=X.w) hkv hacc fun j v hv=>hit.2 j v (by simpa using hv)
  refine wpAny_bind (wpAny_newList ?_ (by rw[hacc,hlen]; exact hl'))
  generalize eh2:h'.push { cls:=.type "list",data:=.seq acc.toList.toArray }=h2
  have g2:h2.get? h'.objs.size=some (seqObj "list" acc.toList.toArray 0):=by
   rw[<- eh2]
   exact get?_push_size _ rfl
  refine wpAny_bind (wpAny_holding ?_)
  refine wpAny_call_entry (T:="list") PyProof.Rows.slot_list_sort ⟨_,g2,rfl⟩ PyProof.Rows.entry_list_sort ?_ (PyProof.Rows.args_list_sort _)
  have hkk:keyKind' acc.toList.toArray=pure oneType':=by
   match hq:acc.toList,hstrs,hacc with
   | [],_,hacc=>rw[hlen]at hacc; simp at hacc; omega
   | [_],_,hacc=>rw[hlen]at hacc; simp at hacc; omega
   | v₁ :: v₂ :: rest,hstrs,_=>exact wK hstrs
  refine TS.pM strKind_oneLt g2 hstrs.keysOf hkk (by rw[hacc,hlen]; omega) (by rw[hacc,hlen]; exact hl') fun st' p1 p2=>?_
  obtain⟨ms,hout,perm,pw⟩:=sorted_out_str hstrs p1 p2
  generalize (arrOf st').map (fun x=>x.snd)=out at hout
  refine⟨_,rfl,wpAny_pure ?_⟩
  obtain⟨ep2,gat⟩:=sortedHeap_at (h:=h2) (a:=h'.objs.size) (vs:=acc.toList) (out:=out) g2
  have hf:H h'.objs.size=none:=(I.kept (t':=tk) keep).hok.fresh (le_refl _)
  refine⟨.ref h'.objs.size,upd H h'.objs.size (.lst (ms.map .str)),(I.kept (t':=tk) keep).laid (t':=tk) (fun b u e=>?_) (le_refl _) ?_,rfl,q _ ms perm pw hf⟩
  ·have hb:b<h'.objs.size:=lt_size e
   have h2s:h2.objs.size=h'.objs.size+1:=by rw[<- eh2]; exact size_push _ _
   rw[sortedHeap_old (ne_of_lt hb) (by rw[h2s]; exact lt_succ_of_lt hb),<- eh2]
   exact get?_push_of_some _ e
  ·refine⟨?_,out.toList,ep2,pC hout,?_⟩
   ·rw[length_map,perm.length_eq]
    exact hl'
   ·simpa [seqObj] using gat
end
section
variable {X:Cx}
end
section
variable {X:Cx}
def tFw (a:Str) (te:TE):TE:=fun σ H Q=>te σ H fun v H1=>∃ i:Int,v = .int i/\0<=i/\i<10 ^ 10/\Q (.str (a++Str.ofString (toString i))) H1
theorem wI {a:Int} (h0:0<=a) (h:a<10 ^ 10):a.natAbs.log2<1920:=by
 have h:a.natAbs<10 ^ 10:=by omega
 by_cases h0:a.natAbs=0
 ·rw[h0]; decide
 ·have h1:a.natAbs.log2<64:=(Nat.log2_lt h0).mpr (lt_of_lt_of_le h (by decide))
  omega
theorem pe_fw {a:Str} {e:Expr} {te:TE} {k:Nat} {p1 p2 pos:Pos} (he:PE X e te) (ha:a.length<=1000:=by decide):PE X (.JoinedStr [.Constant (.str a) k p1,.FormattedValue e (-1) none p2] pos) (tFw a te):=by
 intro pins s σ H Q I h
 refine wpAny_JoinedStr ?_
 have e2:evalEach [.Constant (.str a) k p1,.FormattedValue e (-1) none p2] X.env=[eval (.Constant (.str a) k p1) X.env,eval (.FormattedValue e (-1) none p2) X.env]:=by rfl
 rw[e2]
 unfold Joins
 refine thn (cW pins s σ H (fun v H1=>v = .str a/\H1=H) I ⟨rfl,rfl⟩) fun v s1 zQq=>?_
 obtain⟨x,H1,I1,r1,hx,hH⟩:=zQq
 subst hx hH
 obtain⟨t,rfl⟩:=r1
 refine⟨a,t,rfl,?_,?_⟩
 ·rw[PySem.W.KT.empty_app]
  exact le_trans ha (by decide)
 rw[PySem.W.KT.empty_app]
 unfold Joins
 refine wpAny_FormattedValue_plain (thn (he pins s1 σ _ _ I1 h) fun v s2 zQq=>?_)
 obtain⟨x,H2,I2,r2,i,hx,h0,h1,q⟩:=zQq
 subst hx
 obtain⟨u,rfl⟩:=r2
 have hl:(a++Str.ofString (toString i)).length<=sizeLine:=by
  have:=PySem.W.KT.len_num h0 h1
  rw[strLen_append]
  exact le_trans (show _<=1010 by omega) (by decide)
 refine wpAny_formatField_int (wI h0 h1) ⟨_,_,rfl,hl,hl,?_⟩
 exact⟨.str _,H2,I2.kept (fun _ _ e=>e),⟨_,rfl⟩,q⟩
def ES:V->Option Int->Option Int->Hp->VK->Prop:=fun x lo hi H Q=>∃ y,x = .str y/\y.length<=sizeLine/\Q (.str (Txt.slice y lo hi)) H
theorem A1:SlR X ES:=by
 intro pins s σ H x v vl vu lo hi sl Q I rx hs pl pu h
 obtain⟨y,rfl,hz,q⟩:=h
 obtain⟨t,rfl⟩:=rx
 obtain⟨o,h1,h2,h3⟩:=hs
 refine⟨"str",_,F.slot_str_getitem.lookup,typeIs_str _ _ _,?_⟩
 have key:∀ (l u:Option (Int × Tok)),s.heap.IsSlice sl l u none->l.map (·.1)=lo->u.map (·.1)=hi->wpAny (model X.prog X.w) X.A (getItem (.str y t) (.ref sl)) (EP X pins σ Q) X.xe s:=by
  intro l u hsl e1 e2
  subst e1 e2
  exact wpAny_getItem_str_slice (l:=l) (u:=u) (st:=none) hsl rfl (post_val_or_str ⟨le_trans (Txt.slice_le y _ _) hz,fun t' k=>⟨.str _,H,I.kept (t':=k) (fun _ _ e=>e),⟨t',rfl⟩,q⟩⟩)
 cases pl with
 | none=>
  cases pu with
  | none=>exact key none none ⟨o,h1,h2,h3⟩ rfl rfl
  | int j u=>exact key none (some (j,u)) ⟨o,h1,h2,h3⟩ rfl rfl
 | int i u=>
  cases pu with
  | none=>exact key (some (i,u)) none ⟨o,h1,h2,h3⟩ rfl rfl
  | int j u'=>exact key (some (i,u)) (some (j,u')) ⟨o,h1,h2,h3⟩ rfl rfl
def zX:List V->Hp->VK->Prop:=fun xs H Q=>∃ x n,xs=[.str x]/\PySem.intText? x=some n/\x.length<=640/\Q (.int n) H
theorem qU:eY X (.type "int") zX:=by
 intro pins s σ H xs us Q I r h
 obtain⟨x,n,rfl,hn,hl,q⟩:=h
 obtain⟨u,rfl,t,rfl⟩:=vS r
 exact PySem.W.KIN.call_text hn hl ⟨.int n,H,I.tok _,⟨_,rfl⟩,q⟩
theorem wR:∀ {ns:List Int} {vs:List Value},bQ (ns.map V.int) vs->IntsAre vs ns
 | [],_,h=>by cases h; exact .nil
 | n::ns,_,h=>by
  cases h with
  | cons r h=>
   obtain⟨t,rfl⟩:=r
   exact .cons n t (wR h)
theorem DP:∀ {vs:List Value} {ns:List Int},IntsAre vs ns->2<=ns.length->keyKind' vs.toArray=pure oneType'
 | [],_,h,h2=>by cases h; simp at h2
 | [_],_,h,h2=>by
  have:=IntsAre.length h
  simp at this
  omega
 | v₁ :: v₂ :: rest,_,h,_=>keyKind_ints h
def tN:List V->Hp->VK->Prop:=fun xs H Q=>∃ l ns,xs=[.ref l]/\H l=some (.lst (ns.map .int))/\ns.length<=100000/\
 ∀ p ms,List.Perm ms ns->ms.Pairwise (· <= ·)->H p=none->Q (.ref p) (upd H p (.lst (ms.map .int)))
theorem lK:eY X (.builtin "sorted") tN:=by
 intro pins s σ H xs us Q I r h
 obtain⟨l,ns,rfl,hd,hl,q⟩:=h
 have hl':ns.length<=sizeLine:=le_trans hl (by decide)
 cases r with
 | cons r1 r2=>
  cases r2
  cases (show _=Value.ref l from r1)
  obtain⟨vs,rv,hp,hz⟩:=I.list (SqL.of hd)
  have hI:=wR rv
  have hlen:vs.length=ns.length:=by have:=rv.length; rw[length_map]at this; omega
  have fin:∀ (out:Array Value) (ms:List Int),IntsAre out.toList ms->ms.Perm ns->ms.Pairwise (· <= ·)->EP X pins σ Q (.ref (s.heap.objs.size+1)) { s with heap:=sortedAll s.heap vs out }:=by
   intro out ms hout perm pw
   obtain⟨ep2,gat⟩:=sortedAll_at s.heap vs out
   have hf:H (s.heap.objs.size+1)=none:=I.hok.fresh (le_succ _)
   refine⟨.ref (s.heap.objs.size+1),upd H (s.heap.objs.size+1) (.lst (ms.map .int)),I.laid (t':=s.toks) (fun b u e=>sortedAll_old e) (le_succ _) ?_,rfl,q _ ms perm pw hf⟩
   refine⟨?_,out.toList,ep2,jH hout,?_⟩
   ·rw[length_map,perm.length_eq]
    exact hl'
   ·simpa [seqObj] using gat
  by_cases h64:ns.length<64
  ·exact sorted_ints hp.isList hI (by omega) fin
  refine Calls.call_function_entry kind_sorted plain_sorted entry_sorted (args_sorted1 _) ?_
  unfold Builtin.«sorted»
  refine wpAny_bind (m:=checkCount "sorted" 1 1 _) (wpAny_pure ?_)
  refine wpAny_bind (collect_list hp.isList ?_ (by omega))
  refine wpAny_bind (wpAny_newList ?_ (by omega))
  have hsz:((s.heap.push (seqObj "list" #[] 0)).update s.heap.objs.size (Obj.mapSeq (· ++ vs.toArray))).objs.size=s.heap.objs.size+1:=by
   rw[Heap.size_update,size_push']
  have hoL:(((s.heap.push (seqObj "list" #[] 0)).update s.heap.objs.size (Obj.mapSeq (· ++ vs.toArray))).push (seqObj "list" vs.toArray 0)).get? (s.heap.objs.size+1)=some (seqObj "list" vs.toArray 0):=by
   rw[<- hsz]; exact get?_push_size _ rfl
  show wpAny _ _ _ _ _ { s with heap:=((s.heap.push (seqObj "list" #[] 0)).update s.heap.objs.size (Obj.mapSeq (· ++ vs.toArray))).push (seqObj "list" vs.toArray 0) }
  rw[hsz]
  have hkk:=DP hI (by omega)
  refine wpAny_bind (wpAny_holding (wpAny_call_entry slot_list_sort ⟨_,hoL,rfl⟩ entry_list_sort (TS.pM TS.Et hoL (TS.AE hI) hkk (by omega) (by omega) fun st' p1 p2=>?_) (args_list_sort _)))
  obtain⟨ms,hout,perm,pw⟩:=sorted_out hI p1 (TS.tZ p2)
  generalize (arrOf st').map (fun x=>x.snd)=out at hout
  exact⟨_,rfl,wpAny_pure ⟨_,rfl,fin out ms hout perm pw⟩⟩
theorem yG (K:PySem.W.Frag) {X:Cx} {e:Expr} {f:Str} {pos:Pos} {ta:TE} (he:PE X e ta) (hb:attributeBase e f X.env (eval e X.env)=eval e X.env) (hK:X.K=K:=by rfl):PE X (.Attribute e f pos) (tFld K ta f):=by
 subst hK
 exact dH he hb
end
section
variable {X:Cx}
end
section
variable {X:Cx}
end
theorem GQ (l:Addr) (items:Array Value) (n:Nat) (dd:Option Addr) (sl:Array (Option Value)) (t:Tok) :
  Meets (Builtin.«tuple.__mul__» ⟨[.ref l,.int 1 t],[]⟩) (fun _ R s=>s.heap.get? l=some { cls:=.type "tuple",dict:=dd,data:=.seq items n,slots:=sl }/\R (.ok (.ret (.ref l))) s):=
 .of_wp fun prog w A R s h=>by
  obtain⟨hp,g,d,tk,os⟩:=s
  obtain⟨hl,h⟩:=h
  have f1:=AutoSeq1.idx_int
  wp_walk using AutoSeq1.wpAny_loadPart' hl
  exact⟨_,rfl,h⟩
section
variable {X:Cx}
def HE (K:PySem.W.Frag):R2:=fun x y H Q=>∃ (a:Addr) (k:Int) (xs:List V),x = .ref a/\y = .int k/\SqT K H a xs/\xs≠[]/\1<=k/\k<=1000/\xs.length<=1000/\(k=1->Q (.ref a) H)/\(2<=k->∀ p,H p=none->Q (.ref p) (upd H p (.tup (List.replicate k.toNat xs).flatten)))
theorem Ej (K:PySem.W.Frag) (hK:X.K=K:=by rfl):OpR X (binaryOp .Mult) (HE K):=by
 intro pins s σ H x y v u Q I rx ry h
 obtain⟨a,k,xs,rfl,rfl,hs,hx,k1,k9,hl9,q1,q2⟩:=h
 by_cases hk:k=1
 ·subst hk hK
  cases (show v=Value.ref a from rx)
  obtain⟨t,e⟩:=(show ∃ t,u=Value.int 1 t from ry)
  subst e
  obtain⟨its,rv,⟨⟨c,dd,dt,sl⟩,ho,hc1,n,hd1⟩,hz⟩:=I.tuple hs
  dsimp only at hc1 hd1
  subst hc1 hd1
  refine wpAny_binaryOp_repeat_ref (T:="tuple") (U:="int") (by decide) ⟨_,ho,rfl⟩ (fun s'=>typeIs_int s' 1 t) lD PySem.F.fills_int_mul PySem.F.slot_int_rmul qE PySem.F.slot_int_index.lookup
   (call_meets PySem.F.slot_int_rmul (typeIs_int s 1 t) PySem.F.entry_int_rmul (PySem.F.args_int_rmul_2 _ _) (yD 1 t a its.toArray n dd sl) ⟨ho,rfl,⟨_,ho,rfl⟩,
    call_meets PySem.F.slot_tuple_mul ⟨_,ho,rfl⟩ PySem.F.entry_tuple_mul (PySem.F.args_tuple_mul_2 _ _) (GQ a its.toArray n dd sl t) ⟨ho,?_⟩⟩)
  exact⟨.ref a,H,I,rfl,q1 rfl⟩
 ·exact Ek K hK pins s σ H (.ref a) (.int k) v u Q I rx ry ⟨a,k,xs,rfl,rfl,hs,hx,by omega,k9,hl9,q2 (by omega)⟩
end
theorem GR (l:Addr) (items:Array Value) (n:Nat) (dd:Option Addr) (sl:Array (Option Value)) (t:Tok) (h2:items.isEmpty=false) :
  Meets (Builtin.«tuple.__mul__» ⟨[.ref l,.int 0 t],[]⟩) (fun _ R s=>s.heap.get? l=some { cls:=.type "tuple",dict:=dd,data:=.seq items n,slots:=sl }/\
   R (.ok (.ret (.ref s.heap.objs.size))) { s with heap:=s.heap.push { cls:=.type "tuple",data:=.seq #[] } }):=
 .of_wp fun prog w A R s h=>by
  obtain⟨hp,g,d,tk,os⟩:=s
  obtain⟨hl,h⟩:=h
  have f1:=AutoSeq1.idx_int
  wp_walk using AutoSeq1.wpAny_loadPart' hl
  exact⟨_,rfl,h⟩
section
variable {X:Cx}
def EM:List V->Hp->VK->Prop:=fun xs H Q=>∃ n:Int,xs=[.int n]/\0<=n/\n<10 ^ 10/\Q (.str (Str.ofString (toString n))) H
theorem xD:eY X (.type "str") EM:=by
 intro pins s σ H xs us Q I r h
 obtain⟨n,rfl,h0,h1,q⟩:=h
 obtain⟨u,rfl,t,rfl⟩:=vS r
 exact PySem.P.str_of_int (wI h0 h1) ⟨.str _,H,I.tok _,⟨_,rfl⟩,q⟩
def HD (K:PySem.W.Frag):R2:=fun x y H Q=>∃ (a:Addr) (k:Int) (xs:List V),x = .ref a/\y = .int k/\SqT K H a xs/\xs≠[]/\0<=k/\k<=1000/\xs.length<=1000/\(k=1->Q (.ref a) H)/\(k≠1->∀ p,H p=none->Q (.ref p) (upd H p (.tup (List.replicate k.toNat xs).flatten)))
theorem Ei (K:PySem.W.Frag) (hK:X.K=K:=by rfl):OpR X (binaryOp .Mult) (HD K):=by
 intro pins s σ H x y v u Q I rx ry h
 obtain⟨a,k,xs,rfl,rfl,hs,hx,k1,k9,hl9,q1,q2⟩:=h
 by_cases hk:k=0
 ·subst hk hK
  cases (show v=Value.ref a from rx)
  obtain⟨t,e⟩:=(show ∃ t,u=Value.int 0 t from ry)
  subst e
  obtain⟨its,rv,⟨⟨c,dd,dt,sl⟩,ho,hc1,n,hd1⟩,hz⟩:=I.tuple hs
  dsimp only at hc1 hd1
  subst hc1 hd1
  have ne:its≠[]:=fun z=>hx (by
   have hlen:=rv.length
   rw[z]at hlen
   exact length_eq_zero_iff.mp hlen)
  refine wpAny_binaryOp_repeat_ref (T:="tuple") (U:="int") (by decide) ⟨_,ho,rfl⟩ (fun s'=>typeIs_int s' 0 t) lD PySem.F.fills_int_mul PySem.F.slot_int_rmul qE PySem.F.slot_int_index.lookup
   (call_meets PySem.F.slot_int_rmul (typeIs_int s 0 t) PySem.F.entry_int_rmul (PySem.F.args_int_rmul_2 _ _) (yD 0 t a its.toArray n dd sl) ⟨ho,rfl,⟨_,ho,rfl⟩,
    call_meets PySem.F.slot_tuple_mul ⟨_,ho,rfl⟩ PySem.F.entry_tuple_mul (PySem.F.args_tuple_mul_2 _ _) (GR a its.toArray n dd sl t (by simp [ne])) ⟨ho,?_⟩⟩)
  refine⟨.ref s.heap.objs.size,_,I.laid (t':=s.toks) (o:=.tup []) (fun b ob q=>get?_push_of_some _ q) (le_refl _) ?_,rfl,q2 (by decide) _ (I.hok.fresh (le_refl _))⟩
  exact⟨zero_le _,[],.nil,IsTup.new _ _⟩
 ·exact Ej K hK pins s σ H (.ref a) (.int k) v u Q I rx ry ⟨a,k,xs,rfl,rfl,hs,hx,by omega,k9,hl9,q1,fun h=>q2 (by omega)⟩
end
end L2
end
section
local macro_rules | `(tactic| trivial) => `(tactic| first | rfl | decide | exact .inl rfl | exact .inr rfl | exact .inr (.inl rfl) | exact .inr (.inr rfl) | (intro _; rfl) | with_unfolding_all rfl)
local macro_rules | `(⋯) => `(by trivial)
local macro_rules | `(‹0›) => `(⟨rfl, rfl, rfl, by decide +kernel, rfl, by decide +kernel, by decide +kernel⟩)
set_option hygiene false
local macro_rules
 | `(‹6›) => `(FnOk P w K mg base (CXE P w))
 | `(‹7›) => `(Callee P w K mg base)
 | `(‹8›) => `(Method P w K mg base)
 | `(‹11›) => `((hr.mono (by decide)))
 | `(‹12›) => `((⟨aa8, aa1, aa5, aa2, aa4, aa6, ab3, aa9, ab0, aa3, aa7, ah0, an1, an2, an3⟩ : Ad))
 | `(‹13›) => `((fun _ _ _ _ _ _=>uS1 fun _=>rfl))
 | `(‹16›) => `(@pv _ 0 _ _ ⋯ ⋯ ⋯ ⋯)
 | `(‹17›) => `(@pv _ 1 _ _ ⋯ ⋯ ⋯ ⋯)
 | `(‹18›) => `(@jG _ _ _ _)
 | `(‹20›) => `(@pv _ 2 _ _ ⋯ ⋯ ⋯ ⋯)
 | `(‹21›) => `(@pv _ 3 _ _ ⋯ ⋯ ⋯ ⋯)
 | `(‹26›) => `(@dH _ _ _ _ _ ‹16› (by rfl))
 | `(‹27›) => `(@aY _ _ _ _ _ _ _ _ _ (dQ K) (by rfl) T.ae2 iS (@aD _ _ _ _ _ _ ‹17› (@aB _)) ⋯ ⋯ ⋯ ⋯)
 | `(‹28›) => `(@cX _ _ _ _ _ _ _ (cJ K) ‹17› ‹18› (fun _ _ => rfl))
 | `(‹29›) => `(@cX _ _ _ _ _ _ _ (cJ K) ‹16› ‹18› (fun _ _ => rfl))
 | `(‹30›) => `(@aE _ _ _ (@dM _ _ _ _ _ _ _ _ _ _ fG (by rfl) T.ad7 (by rfl) T.ap8 (@aP _ _ _ _ _ _ _ (@cW _ _ _ _) (@aB _)) ⋯ ⋯ ⋯))
set_option hygiene true
section
namespace Qh
open PySem L2
noncomputable def top (i:Nat):Stmt:=PySem.Challenge.pw_queuehold_k26_carried.main.body.getD i (.Pass ⟨0,0,0,0⟩)
noncomputable abbrev lY:Stmt:=top 3
noncomputable abbrev nO:Stmt:=top 4
noncomputable abbrev lZ:Stmt:=top 27
noncomputable abbrev tI:Stmt:=top 28
noncomputable abbrev l6:Stmt:=top 29
theorem iS:bootBuiltins "len" = some (.builtin "len"):=by decide +kernel
theorem dR:bootBuiltins "isinstance" = some (.builtin "isinstance"):=by decide +kernel
theorem FX:bootBuiltins "all" = some (.builtin "all"):=by decide +kernel
theorem Bx:bootBuiltins "sum" = some (.builtin "sum"):=by decide +kernel
theorem u6:bootBuiltins "tuple" = some (.type "tuple"):=by decide +kernel
theorem zH:bootBuiltins "int" = some (.type "int"):=by decide +kernel
theorem Gg:bootBuiltins "bool" = some (.type "bool"):=by decide +kernel
theorem zG:bootBuiltins "str" = some (.type "str"):=by decide +kernel
noncomputable def kinds:List Str:=["put","out","done","from","part","deal","carried","new"]
structure TxtR (K:PySem.W.Frag) (mg:Str->Option Value) (aa8 aa1:Addr):Prop where
 ae2:mg "len" = none
 ab8:mg "isinstance" = none
 bl2:mg "all" = none
 ar4:mg "sum" = none
 ak4:mg "tuple" = none
 ao8:mg "int" = none
 bn6:mg "bool" = none
 ar5:mg "str" = none
 ah7:mg "range" = none
 aj8:mg "enumerate" = none
 ak5:∃ t,mg "HIGHEST_BYTE" = some (.int 255 t)
 ac7:∃ t,mg "HIGHEST_NUMBER" = some (.int 999999 t)
 au3:∃ t,mg "LONGEST_BODY" = some (.int 60 t)
 af9:∃ t,mg "HIGHEST_TIMES" = some (.int 9 t)
 ak6:∃ t,mg "LARGEST_DEAL" = some (.int 9 t)
 ao9:mg "KINDS" = some (.ref aa8)
 ap0:∀ H,SqT K H aa8 (kinds.map V.str)
 l_KINDS:∃ o,K.lookup aa8=some o/\o.cls = .type "tuple"/\o.dict=none
 af2:cU K aa1=true
 bc2:mg "BadRow" = some (.ref aa1)
noncomputable def bN (lo hi:Int):PyData->Bool
 | .int i=>decide (lo<=i) && decide (i<=hi)
 | _=>false
noncomputable def cD:PyData->Bool
 | .tuple ds=>ds.all (bN 0 255)
 | _=>false
noncomputable def fU (k:Str) (ns:List Int):Bool:=
 if k = "put"\/k = "part" then decide (ns.length<=60)
 else if k = "carried" then decide (1<=ns.length) && decide (ns.length<=61) && decide (ns.headD 0<=9)
 else if k = "deal" then decide (ns.length=1) && decide (1<=ns.headD 0) && decide (ns.headD 0<=9)
 else decide (ns.length=0)
def kP:Sp:=fun vs H Q _=>∃ v d lo hi,vs=[v,.int lo,.int hi]/\Den H d v/\Q (.bl (bN lo hi d)) H
def gS:Sp:=fun vs H Q _=>∃ v d,vs=[v]/\Den H d v/\(∀ ds,d = .tuple ds->ds.length<=sizeLine)/\∀ H',aG H H'->Q (.bl (cD d)) H'
def kQ:Sp:=fun vs H Q _=>∃ k a ns,vs=[.str k,.ref a]/\H a=some (.tup (ns.map V.int))/\Q (.bl (fU k ns)) H
theorem r8 {a b:Str} (h:a=b):decide (V.str a=V.str b)=true:=decide_eq_true (by rw[h])
theorem rZ {a b:Str} (h:¬ a=b):decide (V.str a=V.str b)=false:=decide_eq_false (fun z=>h (V.str.inj z))
theorem mY {a b:Int} (h:¬ a=b):decide (V.int a=V.int b)=false:=decide_eq_false (fun z=>h (V.int.inj z))
section
variable {P:Program} {w:World} {K:PySem.W.Frag} {mg:Str->Option Value} {base:Heap} {aa8 aa1:Addr}
theorem xV:FnScope ["thing","least","most"] ["thing","least","most"] (aH lY):=‹0›
theorem yN {f:Addr} {fd:FuncData} (F:Fun K "is_number" "is_number" lY f fd) (T:TxtR K mg aa8 aa1):‹6› 1 f fd ["thing","least","most"] kP:=by
 refine F.okX xV (fun vs H Q E h=>?_) (fun cdv A outer s H vs Q E hr h=>?_)
 ·obtain⟨v,d,lo,hi,rfl,_⟩:=h
  rfl
 ·obtain⟨v,d,lo,hi,rfl,hd,q⟩:=h
  refine⟨_,@aA _ _ _ _ _ (@bG _ _ _ _ _ _ _ _ (@PW.pt _ _ _ (@q0 _ _ _ _ _ _ _ (@dG _ _ _ (@aY _ _ _ _ _ _ _ _ _ (iG K) (by rfl) T.ab8 dR (@aD _ _ _ _ _ _ ‹16› (@aD _ _ _ _ _ _ (@mU _ _ (.ty "bool") _ _ (by rfl) T.bn6 Gg (by rfl) ⋯ ⋯) (@aB _))) ⋯ ⋯ ⋯ ⋯) ⋯) (@nR _ _ _ _ (@cP _ _ _ _ (@dG _ _ _ (@aY _ _ _ _ _ _ _ _ _ (iG K) (by rfl) T.ab8 dR (@aD _ _ _ _ _ _ ‹16› (@aD _ _ _ _ _ _ (@mU _ _ (.ty "int") _ _ (by rfl) T.ao8 zH (by rfl) ⋯ ⋯) (@aB _))) ⋯ ⋯ ⋯ ⋯) ⋯))))) (@aE _ _ _ (@bB _ _ _ _ (@CL _ _ _ _))) (@aR _)) (@aE _ _ _ (@bB _ _ _ _ (@tV _ _ _ _ _ _ _ _ _ _ _ _ jZ jZ ‹17› ‹16› ‹20› ⋯))),?_⟩
  refine⟨_,rfl,_,_,_,_,rfl,hd.ty,E2 d,_,rfl,?_⟩
  cases d with
  | bool b=>exact aX (aX q)
  | int i=>
   refine bE ⟨_,rfl,_,_,_,_,rfl,hd.ty,mV _,_,rfl,bE ?_⟩
   have e:v = .int i:=by simpa only[Den] using hd
   subst e
   refine⟨_,rfl,_,rfl,_,_,rfl,rfl,_,rfl,?_⟩
   simp only[bN]at q
   by_cases h1:lo<=i
   ·rw[if_pos (decide_eq_true h1)]
    refine⟨_,rfl,_,_,rfl,rfl,?_⟩
    rw[decide_eq_true h1,Bool.true_and]at q
    exact q
   ·rw[if_neg (by simpa using h1)]
    rw[decide_eq_false h1,Bool.false_and]at q
    exact q
  | none=>exact bE ⟨_,rfl,_,_,_,_,rfl,hd.ty,mV _,_,rfl,aX q⟩
  | str x=>exact bE ⟨_,rfl,_,_,_,_,rfl,hd.ty,mV _,_,rfl,aX q⟩
  | tuple x=>exact bE ⟨_,rfl,_,_,_,_,rfl,hd.ty,mV _,_,rfl,aX q⟩
  | list x=>exact bE ⟨_,rfl,_,_,_,_,rfl,hd.ty,mV _,_,rfl,aX q⟩
  | dict x=>exact bE ⟨_,rfl,_,_,_,_,rfl,hd.ty,mV _,_,rfl,aX q⟩
theorem zS:FnScope ["thing"] ["thing"] (aH nO):=‹0›
theorem AD {f:Addr} {fd:FuncData} (F:Fun K "is_bytes" "is_bytes" nO f fd) (T:TxtR K mg aa8 aa1) (ab2:(Callee P w K mg base "is_number" 1 ["thing", "least", "most"] kP)):‹6› 2 f fd ["thing"] gS:=by
 obtain⟨_,ar6⟩:=T.ak5
 refine F.okX zS (fun vs H Q E h=>?_) (fun cdv A outer s H vs Q E hr h=>?_)
 ·obtain⟨v,d,rfl,_⟩:=h
  rfl
 ·obtain⟨v,d,rfl,hd,hz,q⟩:=h
  refine⟨_,@aE _ _ _ (@bB _ _ _ _ (@qI _ _ _ _ _ _ _ (@aY _ _ _ _ _ _ _ _ _ (iG K) (by rfl) T.ab8 dR (@aD _ _ _ _ _ _ ‹16› (@aD _ _ _ _ _ _ (@mU _ _ (.ty "tuple") _ _ (by rfl) T.ak4 u6 (by rfl) ⋯ ⋯) (@aB _))) ⋯ ⋯ ⋯ ⋯) (@tU _ _ _ _ _ (@aY _ _ _ _ _ _ _ _ _ (xF K) (by rfl) T.bl2 FX (@eK _ _ _ _ _ _ _ _ (@dI _ _ _ _ _ _ _ _ _ _ _ ["one"] [] (by rfl) (@CI _ K _ _ _ ‹16› ⋯) (fun C s2 H2 ex=>(@bI _ _ (0) _ (show List.Nodup (["one"]:List Str) by decide +kernel) (by rfl) (Or.inl (by rfl)) ⋯)) (fun C s2 H2 ex => (@Fz _)) (fun C s2 H2 ex=>(@bF _ _ _ _ _ _ _ _ _ _ _ ab2 ‹11› a8 (@aD _ _ _ _ _ _ ‹16› (@aP _ _ _ _ _ _ _ ‹18› (@aD _ _ _ _ _ _ (@bX _ _ (.int 255) _ _ (by rfl) ar6 ⟨_,rfl⟩ ⋯) (@aB _)))) ⋯ ⋯ ⋯ ⋯)) ⋯ ⋯ ⋯ ⋯) (@aB _)) ⋯ ⋯ ⋯ ⋯)))),?_⟩
  refine⟨_,rfl,_,_,_,_,rfl,hd.ty,wJ d,_,rfl,?_⟩
  cases d with
  | tuple ds=>
   refine aX ?_
   have hd':=hd
   simp only[Den]at hd'
   obtain⟨a,xs,rfl,ha,hds⟩:=hd'
   have hl:=hds.length
   refine⟨_,rfl,a,rfl,⟨xs,SqT.of ha⟩,?_⟩
   refine fF (CA (K:=K) (SqT.of ha)) (by rw[hl]; exact hz ds rfl) (fun i y _=>∃ d,ds[i]? = some d/\y = .bl (bN 0 255 d)) (fun _ _ _ _ _ h=>h) (fun σ=>σ.length=1) ?z0 ?_ ?_
   case z0=>rfl
   ·intro i x σc H3 hi hσ s3 hx Q' hQ'
    obtain⟨d,hdi,hdx⟩:=hds.get hx
    match σc,hσ with
    | [z],_=>
     refine⟨_,rfl,x,d,0,255,rfl,hdx.same s3,?_⟩
     exact hQ' _ _ _ rfl (aG.refl _) ⟨d,hdi,rfl⟩
   ·intro D ys H' hD s' hD' hlen hR
    have ey:ys=(ds.map (bN 0 255)).map V.bl:=by
     apply ext_getElem?
     intro i
     cases e:ys[i]? with
     | none=>
      have:ys.length<=i:=List.getElem?_eq_none_iff.mp e
      rw[getElem?_eq_none (by rw[length_map,length_map]; omega)]
     | some y=>
      obtain⟨d,h1,h2⟩:=hR i y e
      rw[getElem?_map,getElem?_map,h1,h2]
      rfl
    refine⟨D,ds.map (bN 0 255),rfl,SqL.of (by rw[hD',ey]),?_⟩
    have:=q H' s'
    simp only[cD]at this
    rw[all_map]
    exact this
  | none=>exact bE (q H (aG.refl H))
  | bool x=>exact bE (q H (aG.refl H))
  | int x=>exact bE (q H (aG.refl H))
  | str x=>exact bE (q H (aG.refl H))
  | list x=>exact bE (q H (aG.refl H))
  | dict x=>exact bE (q H (aG.refl H))
theorem xW:FnScope ["kind","body"] ["kind","body"] (aH lZ):=‹0›
theorem yO {f:Addr} {fd:FuncData} (F:Fun K "fits_kind" "fits_kind" lZ f fd) (T:TxtR K mg aa8 aa1):‹6› 1 f fd ["kind","body"] kQ:=by
 obtain⟨_,ai7⟩:=T.au3
 obtain⟨_,af4⟩:=T.af9
 obtain⟨_,ar7⟩:=T.ak6
 refine F.okX xW (fun vs H Q E h=>?_) (fun cdv A outer s H vs Q E hr h=>?_)
 ·obtain⟨k,a,ns,rfl,_⟩:=h
  rfl
 ·obtain⟨k,a,ns,rfl,ha,q⟩:=h
  refine⟨_,@aA _ _ _ _ _ (@bG _ _ _ _ _ _ _ _ (@PW.pt _ _ _ (@q0 _ _ _ _ _ _ _ (@aZ _ _ _ _ _ _ _ _ iQ ‹16› (@cW _ _ _ _) (bK _)) (@nR _ _ _ _ (@aZ _ _ _ _ _ _ _ _ iQ ‹16› (@cW _ _ _ _) (bK _))))) (@aE _ _ _ (@bB _ _ _ _ (@i7 _ _ _ _ _ _ _ _ jZ ‹27› (@bX _ _ (.int 60) _ _ (by rfl) ai7 ⟨_,rfl⟩ ⋯) (bK _)))) (@aR _)) (@aA _ _ _ _ _ (@bG _ _ _ _ _ _ _ _ (@aZ _ _ _ _ _ _ _ _ iQ ‹16› (@cW _ _ _ _) (bK _)) (@aE _ _ _ (@bB _ _ _ _ (@qI _ _ _ _ _ _ _ (@tV _ _ _ _ _ _ _ _ _ _ _ _ jZ jZ ‹18› ‹27› (@bJ _ _ _ _ _ _ _ _ eZ ‹18› (@bX _ _ (.int 60) _ _ (by rfl) ai7 ⟨_,rfl⟩ ⋯)) ⋯) (@tU _ _ _ _ _ (@i7 _ _ _ _ _ _ _ _ jZ ‹28› (@bX _ _ (.int 9) _ _ (by rfl) af4 ⟨_,rfl⟩ ⋯) (bK _)))))) (@aR _)) (@aA _ _ _ _ _ (@bG _ _ _ _ _ _ _ _ (@aZ _ _ _ _ _ _ _ _ iQ ‹16› (@cW _ _ _ _) (bK _)) (@aE _ _ _ (@bB _ _ _ _ (@qI _ _ _ _ _ _ _ (@i7 _ _ _ _ _ _ _ _ iQ ‹27› ‹18› (bK _)) (@tU _ _ _ _ _ (@tV _ _ _ _ _ _ _ _ _ _ _ _ jZ jZ ‹18› ‹28› (@bX _ _ (.int 9) _ _ (by rfl) ar7 ⟨_,rfl⟩ ⋯) ⋯))))) (@aR _)) (@aE _ _ _ (@bB _ _ _ _ (@i7 _ _ _ _ _ _ _ _ iQ ‹27› ‹18› (bK _)))))),?_⟩
  have hsq:SqT K H a (ns.map V.int):=SqT.of ha
  have at0:∀ x r,ns=x::r->atI (ns.map V.int) 0=some (V.int x):=fun x r e=>by
   subst e
   exact bS (j:=0) rfl
  have ln:((ns.map V.int).length:Int)=(ns.length:Int):=by rw[length_map]
  unfold fU at q
  refine⟨_,rfl,rfl,_,rfl,?_⟩
  by_cases h1:k = "put"
  ·rw[if_pos (.inl h1)]at q
   rw[r8 h1]
   refine aX (aX ⟨_,rfl,a,_,rfl,.inr hsq,_,_,rfl,rfl,?_⟩)
   have e:decide (((ns.map V.int).length:Int)<=60)=decide (ns.length<=60):=by
    apply decide_eq_decide.mpr
    rw[ln]
    omega
   show Q (.bl (decide (((ns.map V.int).length:Int)<=60))) H
   rw[e]
   exact q
  rw[rZ h1]
  refine bE ⟨_,rfl,rfl,_,rfl,?_⟩
  by_cases h2:k = "part"
  ·rw[if_pos (.inr h2)]at q
   rw[r8 h2]
   refine aX ⟨_,rfl,a,_,rfl,.inr hsq,_,_,rfl,rfl,?_⟩
   have e:decide (((ns.map V.int).length:Int)<=60)=decide (ns.length<=60):=by
    apply decide_eq_decide.mpr
    rw[ln]
    omega
   show Q (.bl (decide (((ns.map V.int).length:Int)<=60))) H
   rw[e]
   exact q
  rw[rZ h2]
  rw[if_neg (by rintro (z | z); exact h1 z; exact h2 z)]at q
  refine bE ⟨_,rfl,rfl,_,rfl,?_⟩
  by_cases h3:k = "carried"
  ·rw[if_pos h3]at q
   rw[r8 h3]
   refine aX ⟨_,rfl,a,_,rfl,.inr hsq,_,_,rfl,rfl,_,rfl,?_⟩
   by_cases l1:1<=ns.length
   ·rw[if_pos (decide_eq_true (by rw[ln]; omega))]
    rw[decide_eq_true l1,Bool.true_and]at q
    refine⟨_,_,rfl,rfl,_,_,rfl,rfl,_,rfl,?_⟩
    by_cases l2:ns.length<=61
    ·rw[if_pos (decide_eq_true (by rw[ln]; omega))]
     rw[decide_eq_true l2,Bool.true_and]at q
     match ns,l1,at0,q,hsq with
     | x::r,_,at0,q,hsq=>
      exact⟨_,rfl,a,_,_,_,rfl,rfl,hsq,at0 x r rfl,_,_,rfl,rfl,q⟩
    ·rw[if_neg (by rw[decide_eq_true_eq,ln]; omega)]
     rw[decide_eq_false l2,Bool.false_and]at q
     exact q
   ·rw[if_neg (by rw[decide_eq_true_eq,ln]; omega)]
    rw[decide_eq_false l1,Bool.false_and,Bool.false_and]at q
    exact⟨_,rfl,bE q⟩
  rw[rZ h3]
  rw[if_neg h3]at q
  refine bE ⟨_,rfl,rfl,_,rfl,?_⟩
  by_cases h4:k = "deal"
  ·rw[if_pos h4]at q
   rw[r8 h4]
   refine aX ⟨_,rfl,a,_,rfl,.inr hsq,rfl,_,rfl,?_⟩
   match ns,at0,q,hsq with
   | [],at0,q,hsq=>exact bE q
   | [x],at0,q,hsq=>
    refine aX ⟨_,rfl,a,_,_,_,rfl,rfl,hsq,at0 x [] rfl,_,_,rfl,rfl,_,rfl,?_⟩
    have q:Q (.bl (decide (1<=x) && decide (x<=9))) H:=q
    by_cases l1:1<=x
    ·rw[if_pos (decide_eq_true l1)]
     rw[decide_eq_true l1,Bool.true_and]at q
     exact⟨_,_,rfl,rfl,q⟩
    ·rw[if_neg (by simpa using l1)]
     rw[decide_eq_false l1,Bool.false_and]at q
     exact q
   | x::y::r,at0,q,hsq=>
    have e:decide ((((x::y::r).length:Nat):Int)=1)=false:=decide_eq_false (by simp; omega)
    have e2:decide ((x::y::r).length=1)=false:=decide_eq_false (by simp)
    rw[e2,Bool.false_and,Bool.false_and]at q
    rw[mY (by simp; omega)]
    exact bE q
  rw[rZ h4]
  rw[if_neg h4]at q
  refine bE ⟨_,rfl,a,_,rfl,.inr hsq,rfl,?_⟩
  show Q (.bl (decide (V.int ((ns.map V.int).length:Int)=V.int 0))) H
  have e:decide (V.int ((ns.map V.int).length:Int)=V.int 0)=decide (ns.length=0):=by
   apply decide_eq_decide.mpr
   rw[ln]
   constructor
   ·intro z
    have:=V.int.inj z
    omega
   ·intro z
    rw[z]
    rfl
  rw[e]
  exact q
noncomputable def a9:PyData->List Int
 | .tuple ds=>ds.map fun d=>match d with | .int i=>i | _=>0
 | _=>[]
noncomputable def aS:PyData->Bool
 | .tuple [.str k,n,b]=>kinds.contains k && (bN 0 999999 n && (cD b && fU k (a9 b)))
 | _=>false
theorem HV {α : Type} {l:List α} (h:l.length=3):∃ a b c,l=[a,b,c]:=by
 match l,h with
 | [a,b,c],_=>exact⟨a,b,c,rfl⟩
theorem wQ {ds:List PyData} (h:ds.length≠3):aS (.tuple ds)=false:=by
 match ds,h with
 | [],_=>rfl
 | [a],_=>cases a <;> rfl
 | [a,b],_=>cases a <;> rfl
 | [_,_,_],h=>exact absurd rfl h
 | a::b::c::d::r,_=>cases a <;> rfl
theorem DU (k:Str) (ks:List Str):inV (.str k) (ks.map V.str)=ks.contains k:=by
 unfold inV
 rw[List.any_map,List.contains_eq_any_beq]
 congr 1
 funext y
 show (y == k)=(k == y)
 exact Bool.beq_comm
theorem wV (ks:List Str):(ks.map V.str).all nC=true:=by
 rw[all_map]
 exact all_eq_true.mpr fun _ _=>rfl
theorem mH {H:Hp}:∀ {bs:List PyData} {xs:List V},aV H bs xs->bs.all (bN 0 255)=true->xs=(a9 (.tuple bs)).map V.int
 | [],xs,h,_=>by
  simp only[aV]at h
  subst h
  rfl
 | d::bs,xs,h,e=>by
  simp only[aV]at h
  obtain⟨x,r,e1,h1,h2⟩:=h
  rw[all_cons,and_eq_true]at e
  have e2:=mH h2 e.2
  cases d with
  | int i=>
   simp only[Den]at h1
   rw[e1,h1,e2]
   rfl
  | _=>exact absurd e.1 (by simp [bN])
def jN:Sp:=fun vs H Q _=>∃ v d,vs=[v]/\Den H d v/\(∀ k n bs,d = .tuple [k,n,.tuple bs]->bs.length<=sizeLine)/\∀ H',aG H H'->Q (.bl (aS d)) H'
theorem v4:FnScope ["thing","kind"] ["thing"] (aH tI):=‹0›
theorem DF {f:Addr} {fd:FuncData} (F:Fun K "is_row" "is_row" tI f fd) (T:TxtR K mg aa8 aa1) (ab2:(Callee P w K mg base "is_number" 1 ["thing", "least", "most"] kP))
  (ac1:‹7› "is_bytes" 2 ["thing"] gS) (aj9:‹7› "fits_kind" 1 ["kind","body"] kQ):‹6› 3 f fd ["thing"] jN:=by
 obtain⟨_,ac0⟩:=T.ac7
 refine F.okX v4 (fun vs H Q E h=>?_) (fun cdv A outer s H vs Q E hr h=>?_)
 ·obtain⟨v,d,rfl,_⟩:=h
  rfl
 ·obtain⟨v,d,rfl,hd,hz,q⟩:=h
  refine⟨_,@aA _ _ _ _ _ (@bG _ _ _ _ _ _ _ _ (@PW.pt _ _ _ (@q0 _ _ _ _ _ _ _ (@cP _ _ _ _ (@dG _ _ _ (@aY _ _ _ _ _ _ _ _ _ (iG K) (by rfl) T.ab8 dR (@aD _ _ _ _ _ _ ‹16› (@aD _ _ _ _ _ _ (@mU _ _ (.ty "tuple") _ _ (by rfl) T.ak4 u6 (by rfl) ⋯ ⋯) (@aB _))) ⋯ ⋯ ⋯ ⋯) ⋯)) (@nR _ _ _ _ (@aZ _ _ _ _ _ _ _ _ CM (@aY _ _ _ _ _ _ _ _ _ (dQ K) (by rfl) T.ae2 iS (@aD _ _ _ _ _ _ ‹16› (@aB _)) ⋯ ⋯ ⋯ ⋯) ‹18› (bK _))))) (@aE _ _ _ (@bB _ _ _ _ (@CL _ _ _ _))) (@aR _)) (@aA _ _ _ _ _ (@aW _ _ (1) _ _ _ _ v4.nd (by rfl) (by first | exact Or.inl (by rfl) | exact Or.inr (by rfl)) ‹29› ⋯ ⋯) (@aA _ _ _ _ _ (@bG _ _ _ _ _ _ _ _ (@PW.pt _ _ _ (@q0 _ _ _ _ _ _ _ (@cP _ _ _ _ (@dG _ _ _ (@aY _ _ _ _ _ _ _ _ _ (iG K) (by rfl) T.ab8 dR (@aD _ _ _ _ _ _ ‹17› (@aD _ _ _ _ _ _ (@mU _ _ (.ty "str") _ _ (by rfl) T.ar5 zG (by rfl) ⋯ ⋯) (@aB _))) ⋯ ⋯ ⋯ ⋯) ⋯)) (@nR _ _ _ _ (@aZ _ _ _ _ _ _ _ _ (C6 K) ‹17› (@bX _ _ (.ref aa8) _ _ (by rfl) T.ao9 (by rfl) ⋯) (by rfl))))) (@aE _ _ _ (@bB _ _ _ _ (@CL _ _ _ _))) (@aR _)) (@aE _ _ _ (@bB _ _ _ _ (@qI _ _ _ _ _ _ _ (@bF _ _ _ _ _ _ _ _ _ _ _ ab2 ‹11› a8 (@aN _ _ _ _ _ _ _ ‹29› (@aP _ _ _ _ _ _ _ ‹18› (@aD _ _ _ _ _ _ (@bX _ _ (.int 999999) _ _ (by rfl) ac0 ⟨_,rfl⟩ ⋯) (@aB _)))) ⋯ ⋯ ⋯ ⋯) (@qI _ _ _ _ _ _ _ (@bF _ _ _ _ _ _ _ _ _ _ _ ac1 ‹11› a8 (@aN _ _ _ _ _ _ _ ‹29› (@aB _)) ⋯ ⋯ ⋯ ⋯) (@tU _ _ _ _ _ (@bF _ _ _ _ _ _ _ _ _ _ _ aj9 ‹11› a8 (@aD _ _ _ _ _ _ ‹17› (@aN _ _ _ _ _ _ _ ‹29› (@aB _))) ⋯ ⋯ ⋯ ⋯)))))))),?_⟩
  refine⟨_,rfl,_,_,_,_,rfl,hd.ty,wJ d,_,rfl,?_⟩
  cases d with
  | none=>exact aX (aX (q H (aG.refl H)))
  | bool x=>exact aX (aX (q H (aG.refl H)))
  | int x=>exact aX (aX (q H (aG.refl H)))
  | str x=>exact aX (aX (q H (aG.refl H)))
  | list x=>exact aX (aX (q H (aG.refl H)))
  | dict x=>exact aX (aX (q H (aG.refl H)))
  | tuple ds=>
   have hd':=hd
   simp only[Den]at hd'
   obtain⟨a,xs,rfl,ha,hds⟩:=hd'
   have hl:=hds.length
   by_cases h3:ds.length=3
   ·obtain⟨d0,d1,d2,rfl⟩:=HV h3
    obtain⟨x0,x1,x2,rfl⟩:=HV (hl.trans h3)
    ·refine bE ⟨_,rfl,a,_,rfl,.inr (SqT.of ha),rfl,_,rfl,?_⟩
     refine bE ?_
     simp only[aV]at hds
     obtain⟨y0,r0,e0,k0,y1,r1,e1,k1,y2,r2,e2,k2,e3⟩:=hds
     subst e3
     cases e2
     cases e1
     cases e0
     have sq:SqT K H a [x0,x1,x2]:=SqT.of ha
     refine⟨_,rfl,a,_,_,_,rfl,rfl,sq,bS (j:=0) rfl,?_⟩
     refine⟨_,rfl,_,_,_,_,rfl,k0.ty,CT d0,_,rfl,?_⟩
     cases d0 with
     | none=>exact aX (aX (q H (aG.refl H)))
     | bool x=>exact aX (aX (q H (aG.refl H)))
     | int x=>exact aX (aX (q H (aG.refl H)))
     | tuple x=>exact aX (aX (q H (aG.refl H)))
     | list x=>exact aX (aX (q H (aG.refl H)))
     | dict x=>exact aX (aX (q H (aG.refl H)))
     | str k=>
      simp only[Den]at k0
      subst k0
      refine bE ⟨_,rfl,aa8,_,rfl,.inr (T.ap0 H),rfl,wV kinds,_,rfl,?_⟩
      rw[if_pos rfl,DU]
      simp only[aS]at q
      cases hk:kinds.contains k with
      | false=>
       rw[hk]at q
       exact aX (q H (aG.refl H))
      | true=>
       rw[hk]at q
       refine bE ?_
       refine⟨_,rfl,a,_,_,_,rfl,rfl,sq,bS (j:=1) rfl,x1,d1,0,999999,rfl,k1,_,rfl,?_⟩
       cases hn:bN 0 999999 d1 with
       | false=>
        rw[hn]at q
        exact bE (q H (aG.refl H))
       | true=>
        rw[hn]at q
        refine aX ⟨_,rfl,a,_,_,_,rfl,rfl,sq,bS (j:=2) rfl,x2,d2,rfl,k2,fun bs e=>hz _ _ bs (by rw[e]),fun H' s'=>⟨_,rfl,?_⟩⟩
        cases hb:cD d2 with
        | false=>
         rw[hb]at q
         exact bE (q H' s')
        | true=>
         rw[hb]at q
         cases d2 with
         | tuple bs=>
          simp only[Den]at k2
          obtain⟨a2,ys,rfl,ha2,hbs⟩:=k2
          have ei:=mH hbs hb
          subst ei
          refine aX ⟨_,rfl,_,rfl,a,_,_,_,rfl,rfl,s'.seqT sq,bS (j:=2) rfl,k,a2,_,rfl,s' _ _ ha2,q H' s'⟩
         | _=>exact absurd hb (by simp [cD])
   ·have e:(!decide (V.int (xs.length:Int)=V.int 3))=true:=by
     rw[hl,mY (by omega)]
     rfl
    have q':=q H (aG.refl H)
    rw[wQ h3]at q'
    refine bE ⟨_,rfl,a,_,rfl,.inr (SqT.of ha),rfl,_,rfl,?_⟩
    rw[e]
    exact aX q'
noncomputable def eU (ns:List Int):Int × Int:=(ns.sum % 256,((List.range ns.length).map fun(i:Nat)=>(1+(i:Int)) * ns.getD i 0).sum % 256)
def hZ:Sp:=fun vs H Q _=>∃ a ns,vs=[.ref a]/\H a=some (.tup (ns.map V.int))/\ns.length<=1000/\∀ p H',aG H H'->H' p=some (.tup [.int (eU ns).1,.int (eU ns).2])->Q (.ref p) H'
theorem kR:FnScope ["behind","plain","weighed"] ["behind"] (aH l6):=‹0›
theorem yQ {f:Addr} {fd:FuncData} (F:Fun K "checks_of" "checks_of" l6 f fd) (T:TxtR K mg aa8 aa1):‹6› 1 f fd ["behind"] hZ:=by
 refine F.okX kR (fun vs H Q E h=>?_) (fun cdv A outer s H vs Q E hr h=>?_)
 ·obtain⟨a,ns,rfl,_⟩:=h
  rfl
 ·obtain⟨a,ns,rfl,ha,hl,q⟩:=h
  refine⟨_,@aA _ _ _ _ _ (@aW _ _ (1) _ _ _ _ kR.nd (by rfl) (by first | exact Or.inl (by rfl) | exact Or.inr (by rfl)) (@aY _ _ _ _ _ _ _ _ _ (qT K) (by rfl) T.ar4 Bx (@aD _ _ _ _ _ _ ‹16› (@aB _)) ⋯ ⋯ ⋯ ⋯) ⋯ ⋯) (@aA _ _ _ _ _ (@aW _ _ (2) _ _ _ _ kR.nd (by rfl) (by first | exact Or.inl (by rfl) | exact Or.inr (by rfl)) (@aY _ _ _ _ _ _ _ _ _ (qT K) (by rfl) T.ar4 Bx (@eK _ _ _ _ _ _ _ _ (@dI _ _ _ _ _ _ _ _ _ _ _ ["place","one"] [] (by rfl) (@C5 _ K _ _ _ _ _ _ _ _ _ _ T.aj8 ‹16› ⋯ ⋯ ⋯) (fun C s2 H2 ex=>(@CK _ K _ _ _ (2) _ (@mB _ _ _ _ _ (@bI _ _ (0) _ (show List.Nodup (["place","one"]:List Str) by decide +kernel) (by rfl) (Or.inl (by rfl)) ⋯) (@mB _ _ _ _ _ (@bI _ _ (1) _ (show List.Nodup (["place","one"]:List Str) by decide +kernel) (by rfl) (Or.inl (by rfl)) ⋯) (@CJ _) ⋯) ⋯) ⋯ ⋯ ⋯ ⋯)) (fun C s2 H2 ex => (@Fz _)) (fun C s2 H2 ex=>(@bJ _ _ _ _ _ _ _ _ qN ‹16› ‹17›)) ⋯ ⋯ ⋯ ⋯) (@aB _)) ⋯ ⋯ ⋯ ⋯) ⋯ ⋯) (@aE _ _ _ (@bB _ _ _ _ (@cB _ _ _ _ _ (@cG _ _ _ _ _ _ _ _ (@bJ _ _ _ _ _ _ _ _ iP ‹17› ‹18›) (@cG _ _ _ _ _ _ _ _ (@bJ _ _ _ _ _ _ _ _ iP ‹20› ‹18›) (@aB _))))))),?_⟩
  have sq:SqT K H a (ns.map V.int):=SqT.of ha
  refine⟨_,rfl,a,ns,rfl,.inr sq,?_⟩
  refine⟨_,rfl,a,_,rfl,sq,?_⟩
  refine fF (D8 (K:=K) 1 sq) (by rw[length_map]; exact le_trans hl (by decide)) (fun i y _=>y = .int ((1+(i:Int)) * ns.getD i 0)) (fun _ _ _ _ _ h=>h) (fun σ=>σ.length=2) ?z0 ?_ ?_
  case z0=>rfl
  ·intro i x σc H3 hi hσ s3 hx Q' hQ'
   obtain⟨p,v,rfl,hp,hv⟩:=hx
   rw[length_map]at hi
   rw[getElem?_map,getElem?_eq_getElem hi]at hv
   cases hv
   match σc,hσ with
   | [z1,z2],_=>
    refine⟨p,_,rfl,SqT.of hp,rfl,_,_,rfl,_,_,rfl,rfl,?_⟩
    refine⟨_,rfl,_,rfl,_,_,rfl,rfl,.inl ⟨by omega,by omega⟩,?_⟩
    refine hQ' _ _ _ rfl (aG.refl _) ?_
    rw[getD_eq_getElem?_getD,getElem?_eq_getElem hi]
    rfl
  ·intro D ys H' hD s' hD' hlen hR
   have ey:ys=((List.range ns.length).map fun(i:Nat)=>(1+(i:Int)) * ns.getD i 0).map V.int:=by
    apply ext_getElem?
    intro i
    rw[length_map]at hlen
    cases e:ys[i]? with
    | none=>
     have:ys.length<=i:=List.getElem?_eq_none_iff.mp e
     rw[getElem?_eq_none (by rw[length_map,length_map,length_range]; omega)]
    | some y=>
     have hi:i<ns.length:=by
      have:=(List.getElem?_eq_some_iff.mp e).1
      omega
     rw[hR i y e,getElem?_map,getElem?_map,List.getElem?_range hi]
     rfl
   refine⟨D,_,rfl,.inl (SqL.of (by rw[hD',ey])),?_⟩
   refine⟨_,rfl,_,_,rfl,rfl,(by show (0:Int)<256; decide),_,rfl,_,_,rfl,rfl,(by show (0:Int)<256; decide),(by show 2<=sizeLine; decide),fun p hp=>?_⟩
   exact q p _ (s'.trans (aI hp)) aC
end
section
variable {P:Program} {w:World} {K:PySem.W.Frag} {mg:Str->Option Value} {base:Heap} {aa8 aa1:Addr}
noncomputable def dX (k:Str) (n:Int) (ns:List Int):List Int:=[(kinds.idxOf k:Int)+1]++[n / 65536,n / 256 % 256,n % 256]++[(ns.length:Int)]++ns
noncomputable def cV (k:Str) (n:Int) (ns:List Int):List Int:=[(eU (dX k n ns)).1,(eU (dX k n ns)).2]++dX k n ns
noncomputable def EI:PyData->List Int
 | .tuple [.str k,.int n,b]=>cV k n (a9 b)
 | _=>[]
theorem lG {d:PyData} (h:aS d=true):∃ k n bs,d = .tuple [.str k,.int n,.tuple bs]/\kinds.contains k=true/\0<=n/\n<=999999/\bs.all (bN 0 255)=true/\fU k (a9 (.tuple bs))=true:=by
 cases d with
 | tuple ds=>
  by_cases h3:ds.length=3
  ·obtain⟨d0,d1,d2,rfl⟩:=HV h3
   cases d0 with
   | str k=>
    simp only[aS,and_eq_true]at h
    obtain⟨h1,h2,h4,h5⟩:=h
    cases d1 with
    | int n=>
     simp only[bN,and_eq_true,decide_eq_true_eq]at h2
     cases d2 with
     | tuple bs=>exact⟨k,n,bs,rfl,h1,h2.1,h2.2,h4,h5⟩
     | _=>simp [cD]at h4
    | _=>simp [bN]at h2
   | _=>cases h
  ·rw[wQ h3]at h
   cases h
 | _=>cases h
theorem DV {k:Str} (h:kinds.contains k=true):kinds[kinds.idxOf k]? = some k/\∀ i,i<kinds.idxOf k->kinds[i]? ≠ some k:=by
 have hm:k∈kinds:=by simpa using h
 have hl:=List.idxOf_lt_length_of_mem hm
 refine⟨by rw[getElem?_eq_getElem hl,List.getElem_idxOf],fun i hi e=>?_⟩
 have:=List.not_of_lt_findIdx (p:=(· == k)) (xs:=kinds) (i:=i) hi
 have hi2:i<kinds.length:=lt_trans hi hl
 rw[getElem?_eq_getElem hi2]at e
 have e:=Option.some.inj e
 rw[e]at this
 simp at this
theorem uT {k:Str} {ns:List Int} (h:fU k ns=true):ns.length<=61:=by
 unfold fU at h
 split at h
 ·have:=of_decide_eq_true h
  omega
 ·split at h
  ·simp only[and_eq_true,decide_eq_true_eq]at h
   omega
  ·split at h
   ·simp only[and_eq_true,decide_eq_true_eq]at h
    omega
   ·have:=of_decide_eq_true h
    omega
end
noncomputable abbrev lV:Stmt:=top 30
section
variable {P:Program} {w:World} {K:PySem.W.Frag} {mg:Str->Option Value} {base:Heap} {aa8 aa1:Addr}
def eR (aa1:Addr):Sp:=fun vs H Q E=>∃ v d,vs=[v]/\Den H d v/\(∀ k n bs,d = .tuple [k,n,.tuple bs]->bs.length<=sizeLine)/\
 (aS d=true->∀ p H',aG H H'->H' p=some (.tup ((EI d).map V.int))->Q (.ref p) H')/\(aS d=false->∀ H',aG H H'->E (.ref aa1) none H')
theorem fP:FnScope ["row","number","body","figures","behind"] ["row"] (aH lV):=‹0›
theorem yL {f:Addr} {fd:FuncData} (F:Fun K "row_bytes" "row_bytes" lV f fd) (T:TxtR K mg aa8 aa1) (ac8:‹7› "is_row" 3 ["thing"] jN)
  (ad2:‹7› "checks_of" 1 ["behind"] hZ):‹6› 4 f fd ["row"] (eR aa1):=by
 refine F.okX fP (fun vs H Q E h=>?_) (fun cdv A outer s H vs Q E hr h=>?_)
 ·obtain⟨v,d,rfl,_⟩:=h
  rfl
 ·obtain⟨v,d,rfl,hd,hz,q,qe⟩:=h
  refine⟨_,@aA _ _ _ _ _ (@bG _ _ _ _ _ _ _ _ (@cP _ _ _ _ (@dG _ _ _ (@bF _ _ _ _ _ _ _ _ _ _ _ ac8 ‹11› a8 (@aD _ _ _ _ _ _ ‹16› (@aB _)) ⋯ ⋯ ⋯ ⋯) ⋯)) (@aE _ _ _ (@dM _ _ _ _ _ _ _ _ _ _ fG (by rfl) T.af2 (by rfl) T.bc2 (@aP _ _ _ _ _ _ _ (@cW _ _ _ _) (@aB _)) ⋯ ⋯ ⋯)) (@aR _)) (@aA _ _ _ _ _ (@aW _ _ (1) _ _ _ _ fP.nd (by rfl) (by first | exact Or.inl (by rfl) | exact Or.inr (by rfl)) ‹29› ⋯ ⋯) (@aA _ _ _ _ _ (@aW _ _ (2) _ _ _ _ fP.nd (by rfl) (by first | exact Or.inl (by rfl) | exact Or.inr (by rfl)) ‹29› ⋯ ⋯) (@aA _ _ _ _ _ (@aW _ _ (3) _ _ _ _ fP.nd (by rfl) (by first | exact Or.inl (by rfl) | exact Or.inr (by rfl)) (@cB _ _ _ _ _ (@cG _ _ _ _ _ _ _ _ (@bJ _ _ _ _ _ _ _ _ yK ‹17› ‹18›) (@cG _ _ _ _ _ _ _ _ (@bJ _ _ _ _ _ _ _ _ iP (@bJ _ _ _ _ _ _ _ _ yK ‹17› ‹18›) ‹18›) (@cG _ _ _ _ _ _ _ _ (@bJ _ _ _ _ _ _ _ _ iP ‹17› ‹18›) (@aB _))))) ⋯ ⋯) (@aA _ _ _ _ _ (@aW _ _ (4) _ _ _ _ fP.nd (by rfl) (by first | exact Or.inl (by rfl) | exact Or.inr (by rfl)) (@bJ _ _ _ _ _ _ _ _ lC (@bJ _ _ _ _ _ _ _ _ lC (@bJ _ _ _ _ _ _ _ _ lC (@cB _ _ _ _ _ (@cG _ _ _ _ _ _ _ _ (@bJ _ _ _ _ _ _ _ _ eZ (@HM _ _ _ _ _ _ _ _ _ _ _ K PySem.F.slot_tuple_index PySem.F.type_tuple_index (DI K) (@bX _ _ (.ref aa8) _ _ (by rfl) T.ao9 (by rfl) ⋯) (@aN _ _ _ _ _ _ _ ‹29› (@aB _)) ⋯ ⋯ ⋯ ⋯ ⋯ ⋯) ‹18›) (@aB _))) ‹21›) (@cB _ _ _ _ _ (@eT _ _ _ _ _ _ _ _ (@aY _ _ _ _ _ _ _ _ _ (dQ K) (by rfl) T.ae2 iS (@aD _ _ _ _ _ _ ‹20› (@aB _)) ⋯ ⋯ ⋯ ⋯) (@aB _)))) ‹20›) ⋯ ⋯) (@aE _ _ _ (@bB _ _ _ _ (@bJ _ _ _ _ _ _ _ _ lC (@bF _ _ _ _ _ _ _ _ _ _ _ ad2 ‹11› a8 (@aD _ _ _ _ _ _ (@pv _ 4 _ _ ⋯ ⋯ ⋯ ⋯) (@aB _)) ⋯ ⋯ ⋯ ⋯) (@pv _ 4 _ _ ⋯ ⋯ ⋯ ⋯)))))))),?_⟩
  refine⟨_,rfl,v,d,rfl,hd,hz,fun H1 s1=>⟨_,rfl,?_⟩⟩
  cases hb:aS d with
  | false=>exact aX ⟨(by show 1<=sizeLine; decide),qe hb H1 s1⟩
  | true=>
   refine bE ?_
   obtain⟨k,n,bs,rfl,hk,n0,n9,hbs,hf⟩:=lG hb
   have hd1:=hd.same s1
   simp only[Den,aV]at hd1
   obtain⟨a,xs,rfl,ha,y0,r0,e0,k0,y1,r1,e1,k1,y2,r2,e2,⟨a2,ys,k2,ha2,h2⟩,e3⟩:=hd1
   subst e3 k0 k1 k2
   subst e2
   subst e1
   subst e0
   have ei:=mH h2 hbs
   subst ei
   have fl:=uT hf
   have sq:SqT K H1 a [.str k,.int n,.ref a2]:=SqT.of ha
   obtain⟨i1,i2⟩:=DV hk
   refine⟨_,rfl,a,_,_,_,rfl,rfl,sq,bS (j:=1) rfl,?_⟩
   refine⟨_,rfl,a,_,_,_,rfl,rfl,sq,bS (j:=2) rfl,?_⟩
   refine⟨_,rfl,_,_,rfl,rfl,⟨by decide,by decide⟩,_,rfl,_,_,rfl,rfl,⟨by decide,by decide⟩,_,_,rfl,rfl,(by show (0:Int)<256; decide),_,rfl,_,_,rfl,rfl,(by show (0:Int)<256; decide),(by show 3<=sizeLine; decide),fun p3 hp3=>?_⟩
   have S2:=aI (o:=.tup [.int (n / 65536),.int (n / 256 % 256),.int (n % 256)]) hp3
   refine⟨⟨aa8,rfl,.inr T.l_KINDS⟩,_,rfl,a,_,_,_,rfl,rfl,S2.seqT sq,bS (j:=0) rfl,aa8,kinds,k,kinds.idxOf k,rfl,rfl,T.ap0 _,i1,i2,?_⟩
   refine⟨_,_,rfl,rfl,(by show 1<=sizeLine; decide),fun p4 hp4=>?_⟩
   have S3:=aI (o:=.tup [V.int ((kinds.idxOf k:Int)+1)]) hp4
   refine⟨_,rfl,p4,p3,_,_,rfl,rfl,aC,S3 _ _ aC,(by show 1+3<=sizeLine; decide),fun p5 H5 S5 g5=>?_⟩
   have g2:H5 a2=some (.tup ((a9 (.tuple bs)).map V.int)):=S5 _ _ (S3 _ _ (S2 _ _ ha2))
   refine⟨_,rfl,a2,_,rfl,.inr (SqT.of g2),(by show 1<=sizeLine; decide),fun p6 hp6=>?_⟩
   have S6:=aI (o:=.tup [V.int (((a9 (.tuple bs)).map V.int).length:Int)]) hp6
   refine⟨p5,p6,_,_,rfl,rfl,S6 _ _ g5,aC,(by show 4+1<=sizeLine; decide),fun p7 H7 S7 g7=>?_⟩
   have zl:(100:Nat)<=sizeLine:=by decide
   refine⟨_,rfl,p7,a2,_,_,rfl,rfl,g7,S7 _ _ (S6 _ _ g2),?_,fun p8 H8 S8 g8=>?_⟩
   ·show 5+((a9 (.tuple bs)).map V.int).length<=sizeLine
    rw[length_map]
    omega
   have eb:([V.int ((kinds.idxOf k:Int)+1)]++[V.int (n / 65536),V.int (n / 256 % 256),V.int (n % 256)]++[V.int (((a9 (.tuple bs)).map V.int).length:Int)]++(a9 (.tuple bs)).map V.int)=(dX k n (a9 (.tuple bs))).map V.int:=by
    unfold dX
    rw[length_map]
    simp
   have g8':H8 p8=some (.tup ((dX k n (a9 (.tuple bs))).map V.int)):=by rw[<- eb]; exact g8
   have lb:(dX k n (a9 (.tuple bs))).length=5+(a9 (.tuple bs)).length:=by
    unfold dX
    simp
    omega
   refine⟨_,rfl,p8,_,rfl,g8',by omega,fun p9 H9 S9 g9=>?_⟩
   refine⟨_,rfl,p9,p8,_,_,rfl,rfl,g9,S9 _ _ g8',?_,fun p10 H10 S10 g10=>?_⟩
   ·show 2+((dX k n (a9 (.tuple bs))).map V.int).length<=sizeLine
    rw[length_map]
    omega
   refine q hb p10 H10 (s1.trans (S2.trans (S3.trans (S5.trans (S6.trans (S7.trans (S8.trans (S9.trans S10)))))))) ?_
   rw[g10]
   simp only[EI,cV,map_append]
   rfl
end
theorem dP (ns:List Int):a9 (.tuple (ns.map .int))=ns:=by
 show (ns.map PyData.int).map _=ns
 rw[map_map]
 exact List.map_id _
theorem o8 {ns:List Int} (h:∀ b∈ns,0<=b/\b<=255):cD (.tuple (ns.map .int))=true:=by
 show (ns.map PyData.int).all (bN 0 255)=true
 rw[all_map,all_eq_true]
 intro b hb
 have:=h b hb
 show (decide (0<=b) && decide (b<=255))=true
 rw[decide_eq_true this.1,decide_eq_true this.2]
 rfl
theorem cH {n:St->Hp->Prop} {D:Ends} {σ : St} {H:Hp} (e:D.nx=n) (h:n σ H):B7 D σ H:=by
 subst e
 exact h
theorem bY {n:Nat} (h:n<=100:=by exact le_of_ble_eq_true rfl):n<=sizeLine:=le_trans h (by decide)
noncomputable def l8 (ns:List Int):Option PyData:=
 if ns.take 2=[(eU (ns.drop 2)).1,(eU (ns.drop 2)).2] then
  if 1<=ns.getD 2 0/\ns.getD 2 0<=8 then
   let d:PyData:=.tuple [.str (kinds.getD (ns.getD 2 0 - 1).toNat "put"),.int (ns.getD 3 0 * 65536+ns.getD 4 0 * 256+ns.getD 5 0),.tuple ((ns.drop 7).map .int)]
   if aS d=true then some d else none
  else none
 else none
noncomputable def qR (ns:List Int):Option Nat:=if ns.length<7 then none else if 7+(ns.getD 6 0).toNat<=ns.length then some (7+(ns.getD 6 0).toNat) else none
noncomputable def gB:Nat->List Int->Option (List PyData × Nat)
 | 0,_=>none
 | f+1,ns=>match qR ns with
  | none=>some ([],ns.length)
  | some e=>match l8 (ns.take e) with
   | none=>none
   | some d=>(gB f (ns.drop e)).map fun r=>(d::r.1,r.2)
theorem GZ {ns:List Int} {e:Nat} (h:qR ns=some e):7<=e/\e<=ns.length:=by
 unfold qR at h
 split at h
 ·cases h
 ·split at h
  ·have:=Option.some.inj h
   omega
  ·cases h
theorem wD {ns:List Int} {d:PyData} (h:l8 ns=some d):lN d=true:=by
 have tl:∀ l:List Int,dE (l.map PyData.int)=true:=by
  intro l
  induction l with
  | nil=>rfl
  | cons x l ih=>exact ih
 unfold l8 at h
 split at h
 ·split at h
  ·dsimp only at h
   split at h
   ·have e:=Option.some.inj h
    rw[<- e]
    simp only[lN,dE,Bool.true_and,Bool.and_true]
    exact tl _
   ·cases h
  ·cases h
 ·cases h
theorem E4:∀ k∈kinds,kinds.getD (kinds.idxOf k) "put" = k/\kinds.idxOf k<8:=by decide +kernel
theorem BG {k:Str} {n:Int} {ns:List Int} (hr:aS (.tuple [.str k,.int n,.tuple (ns.map .int)])=true):l8 (cV k n ns)=some (.tuple [.str k,.int n,.tuple (ns.map .int)]):=by
 obtain⟨k',n',bs,e,hk,n0,n9,hb,hf⟩:=lG hr
 injection e with e
 injection e with e1 e
 injection e with e2 e
 injection e1 with e1
 injection e2 with e2
 subst e1 e2
 obtain⟨i1,i2⟩:=E4 k (by simpa using hk)
 have e7:(cV k n ns).drop 7=ns:=rfl
 have e2:(cV k n ns).drop 2=dX k n ns:=rfl
 have g2:(cV k n ns).getD 2 0=(kinds.idxOf k:Int)+1:=rfl
 have g3:(cV k n ns).getD 3 0=n / 65536:=rfl
 have g4:(cV k n ns).getD 4 0=n / 256 % 256:=rfl
 have g5:(cV k n ns).getD 5 0=n % 256:=rfl
 have en:n / 65536 * 65536+n / 256 % 256 * 256+n % 256=n:=by omega
 have ek:((kinds.idxOf k:Int)+1 - 1).toNat=kinds.idxOf k:=by omega
 unfold l8
 rw[e2,if_pos (show (cV k n ns).take 2=[(eU (dX k n ns)).1,(eU (dX k n ns)).2] from rfl),g2,g3,g4,g5,e7,if_pos ⟨by omega,by omega⟩,en,ek,i1]
 dsimp only
 rw[if_pos hr]
theorem cS (k:Str) (n:Int) (ns:List Int):(cV k n ns).length=7+ns.length:=by
 unfold cV dX
 simp
 omega
theorem EH (k:Str) (n:Int) (ns tl:List Int):(cV k n ns++tl).getD 6 0=(ns.length:Int):=rfl
theorem FN (k:Str) (n:Int) (ns tl:List Int):qR (cV k n ns++tl)=some (7+ns.length):=by
 unfold qR
 have hl:=cS k n ns
 rw[EH,length_append,hl,if_neg (by omega),if_pos (by omega)]
 rfl
theorem C3 {k:Str} {n:Int} {ns tl:List Int} {f:Nat} (hr:aS (.tuple [.str k,.int n,.tuple (ns.map .int)])=true) :
  gB (f+1) (cV k n ns++tl)=(gB f tl).map fun r=>(.tuple [.str k,.int n,.tuple (ns.map .int)]::r.1,r.2):=by
 have hl:=cS k n ns
 have e1:(cV k n ns++tl).take (7+ns.length)=cV k n ns:=by rw[<- hl]; exact List.take_left
 have e2:(cV k n ns++tl).drop (7+ns.length)=tl:=by rw[<- hl]; exact List.drop_left
 show (match qR (cV k n ns++tl) with
  | none=>some ([],(cV k n ns++tl).length)
  | some e=>match l8 ((cV k n ns++tl).take e) with
   | none=>none
   | some d=>(gB f ((cV k n ns++tl).drop e)).map fun(r:List PyData × Nat)=>(d::r.1,r.2))=_
 rw[FN]
 dsimp only
 rw[e1,e2,BG hr]
noncomputable abbrev pT:Stmt:=top 31
noncomputable abbrev nN:Stmt:=top 32
noncomputable abbrev pS:Stmt:=top 33
structure TxtB (K:PySem.W.Frag) (mg:Str->Option Value) (aa8 aa1 aa5:Addr):Prop extends TxtR K mg aa8 aa1 where
 ar8:mg "list" = none
 ax9:∃ t,mg "CHECKS_SIZE" = some (.int 2 t)
 ap4:∃ t,mg "HEAD_SIZE" = some (.int 7 t)
 ad7:cU K aa5=true
 ap8:mg "Broken" = some (.ref aa5)
noncomputable def Hm (st:Nat):Option Nat->V
 | none=>.non
 | some e=>.int ((st+e:Nat):Int)
def dW (ns:List Int):Prop:=∀ b∈ns,0<=b/\b<=255
def nD:Sp:=fun vs H Q _=>∃ (a:Addr) (ns:List Int) (st:Nat),vs=[.ref a,.int (st:Int)]/\H a=some (.tup (ns.map V.int))/\dW ns/\st<=ns.length/\Q (Hm st (qR (ns.drop st))) H
def lR (aa5:Addr):Sp:=fun vs H Q E=>∃ (a:Addr) (ns:List Int),vs=[.ref a]/\H a=some (.tup (ns.map V.int))/\7<=ns.length/\ns.length<=300/\
 (∀ d,l8 ns=some d->∀ p H',aG H H'->Den H' d (.ref p)->Q (.ref p) H')/\(l8 ns=none->∀ H',aG H H'->E (.ref aa5) none H')
theorem Gb {xs:List V} {lo hi:Nat} (h1:lo<=hi) (h2:hi<=xs.length):iU xs (some (lo:Int)) (some (hi:Int))=(xs.drop lo).take (hi - lo):=by
 unfold iU
 rw[HT.iZ,HT.iZ,min_eq_left (show lo<=xs.length by omega),min_eq_left h2]
theorem uZ {xs:List V} {lo:Nat} (h:lo<=xs.length):iU xs (some (lo:Int)) none=xs.drop lo:=by
 unfold iU
 rw[HT.iZ,HT.tK,min_eq_left h,List.take_of_length_le (by rw[length_drop]; omega)]
theorem Ho {xs:List V} {hi:Nat} (h:hi<=xs.length):iU xs none (some (hi:Int))=xs.take hi:=by
 unfold iU
 rw[HT.iZ,HT.tK,min_eq_left h,List.drop_zero,Nat.sub_zero]
theorem E3 {i:Int} (h0:0<=i) (h:i<8):atI (kinds.map V.str) i=some (.str (kinds.getD i.toNat "put")):=by
 have k1:i.toNat<kinds.length:=by show _<8; omega
 refine bZ h0 ?_
 rw[getElem?_map,getD_eq_getElem?_getD,getElem?_eq_getElem k1]
 rfl
theorem FE {ns:List Int} {i:Nat} (h:i<ns.length):ns[i]? = some (ns.getD i 0):=by
 rw[getD_eq_getElem?_getD,getElem?_eq_getElem h]
 rfl
theorem Fd {ns:List Int} {i:Nat} (h:i<ns.length):(ns.map V.int)[i]? = some (.int (ns.getD i 0)):=by
 rw[getElem?_map,FE h]
 rfl
theorem AV {ns:List Int} {i:Nat} (h:i<ns.length):ns.getD i 0∈ns:=by
 rw[getD_eq_getElem?_getD,getElem?_eq_getElem h]
 exact List.getElem_mem h
theorem qP (ns:List Int) (st i:Nat):(ns.drop st).getD i 0=ns.getD (st+i) 0:=by
 rw[getD_eq_getElem?_getD,getD_eq_getElem?_getD,List.getElem?_drop]
section
variable {P:Program} {w:World} {K:PySem.W.Frag} {mg:Str->Option Value} {base:Heap} {aa8 aa1 aa5:Addr}
theorem sV:FnScope ["some","start","end"] ["some","start"] (aH pT):=‹0›
theorem BO {f:Addr} {fd:FuncData} (F:Fun K "row_end" "row_end" pT f fd) (T:TxtB K mg aa8 aa1 aa5):‹6› 1 f fd ["some","start"] nD:=by
 obtain⟨_,ai1⟩:=T.ap4
 refine F.okX sV (fun vs H Q E h=>?_) (fun cdv A outer s H vs Q E hr h=>?_)
 ·obtain⟨a,ns,st,rfl,_⟩:=h
  rfl
 ·obtain⟨a,ns,st,rfl,ha,hb,hst,q⟩:=h
  refine⟨_,@aA _ _ _ _ _ (@bG _ _ _ _ _ _ _ _ (@aZ _ _ _ _ _ _ _ _ CO (@bJ _ _ _ _ _ _ _ _ eZ ‹17› (@bX _ _ (.int 7) _ _ (by rfl) ai1 ⟨_, rfl⟩ ⋯)) (@aY _ _ _ _ _ _ _ _ _ (dQ K) (by rfl) T.ae2 iS (@aD _ _ _ _ _ _ ‹16› (@aB _)) ⋯ ⋯ ⋯ ⋯) (bK _)) (@aE _ _ _ (@bB _ _ _ _ (@lB _ _ _))) (@aR _)) (@aA _ _ _ _ _ (@aW _ _ (2) _ _ _ _ sV.nd (by rfl) (by first | exact Or.inl (by rfl) | exact Or.inr (by rfl)) (@bJ _ _ _ _ _ _ _ _ eZ (@bJ _ _ _ _ _ _ _ _ eZ ‹17› (@bX _ _ (.int 7) _ _ (by rfl) ai1 ⟨_, rfl⟩ ⋯)) (@cX _ _ _ _ _ _ _ (cJ K) ‹16› (@bJ _ _ _ _ _ _ _ _ qM (@bJ _ _ _ _ _ _ _ _ eZ ‹17› (@bX _ _ (.int 7) _ _ (by rfl) ai1 ⟨_, rfl⟩ ⋯)) ‹18›) (fun _ _=>rfl))) ⋯ ⋯) (@aE _ _ _ (@bB _ _ _ _ (@Eg _ _ _ _ _ _ _ _ (@aZ _ _ _ _ _ _ _ _ jZ ‹20› (@aY _ _ _ _ _ _ _ _ _ (dQ K) (by rfl) T.ae2 iS (@aD _ _ _ _ _ _ ‹16› (@aB _)) ⋯ ⋯ ⋯ ⋯) (bK _)) ‹20› (@lB _ _ _))))),?_⟩
  have sq:SqT K H a (ns.map V.int):=SqT.of ha
  refine⟨_,rfl,_,_,rfl,rfl,_,rfl,a,_,rfl,.inr sq,_,_,rfl,rfl,_,rfl,?_⟩
  rw[length_map]
  show if decide ((ns.length:Int)<(st:Int)+7)=true then _ else _
  unfold qR at q
  rw[length_drop,qP]at q
  by_cases h1:ns.length - st<7
  ·rw[if_pos h1]at q
   rw[if_pos (decide_eq_true (by omega))]
   exact q
  ·rw[if_neg h1]at q
   rw[if_neg (by rw[decide_eq_true_eq]; omega)]
   have h6:st+6<ns.length:=by omega
   obtain⟨b0,b9⟩:=hb _ (AV h6)
   have e6:((st:Int)+7 - 1)=((st+6:Nat):Int):=by omega
   refine⟨_,rfl,_,_,rfl,rfl,_,rfl,_,rfl,_,_,rfl,rfl,_,_,rfl,rfl,a,_,_,.int (ns.getD (st+6) 0),rfl,rfl,sq,?_,_,_,rfl,rfl,?_⟩
   ·show atI _ ((st:Int)+7 - 1)=_
    rw[e6]
    exact bS (Fd h6)
   refine⟨_,rfl,_,rfl,a,_,rfl,.inr sq,_,_,rfl,rfl,_,rfl,?_⟩
   rw[length_map]
   show if decide ((st:Int)+7+ns.getD (st+6) 0<=(ns.length:Int))=true then _ else _
   by_cases h2:7+(ns.getD (st+6) 0).toNat<=ns.length - st
   ·rw[if_pos h2]at q
    rw[if_pos (decide_eq_true (by omega))]
    refine⟨_,rfl,?_⟩
    have ee:((st+(7+(ns.getD (st+6) 0).toNat):Nat):Int)=(st:Int)+7+ns.getD (st+6) 0:=by omega
    have q:Q (.int ((st+(7+(ns.getD (st+6) 0).toNat):Nat):Int)) H:=q
    rw[ee]at q
    exact q
   ·rw[if_neg h2]at q
    rw[if_neg (by rw[decide_eq_true_eq]; omega)]
    exact q
theorem iX:FnScope ["whole","behind","number","row"] ["whole"] (aH nN):=‹0›
theorem AC {f:Addr} {fd:FuncData} (F:Fun K "row_from" "row_from" nN f fd) (T:TxtB K mg aa8 aa1 aa5) (ac8:‹7› "is_row" 3 ["thing"] jN)
  (ad2:‹7› "checks_of" 1 ["behind"] hZ):‹6› 4 f fd ["whole"] (lR aa5):=by
 obtain⟨_,ai1⟩:=T.ap4
 obtain⟨_,ak7⟩:=T.ax9
 refine F.okX iX (fun vs H Q E h=>?_) (fun cdv A outer s H vs Q E hr h=>?_)
 ·obtain⟨a,ns,rfl,_⟩:=h
  rfl
 ·obtain⟨a,ns,rfl,ha,h7,h3,q,qe⟩:=h
  refine⟨_,@aA _ _ _ _ _ (@aW _ _ (1) _ _ _ _ iX.nd (by rfl) (by first | exact Or.inl (by rfl) | exact Or.inr (by rfl)) (@eI _ _ _ _ _ _ _ _ _ _ (oG K) ‹16› (@fH _ _ _ (@bX _ _ (.int 2) _ _ (by rfl) ak7 ⟨_,rfl⟩ ⋯)) (@gO _)) ⋯ ⋯) (@aA _ _ _ _ _ (@bG _ _ _ _ _ _ _ _ (@aZ _ _ _ _ _ _ _ _ (yJ hr.units) (@eI _ _ _ _ _ _ _ _ _ _ (oG K) ‹16› (@gO _) (@fH _ _ _ (@bX _ _ (.int 2) _ _ (by rfl) ak7 ⟨_,rfl⟩ ⋯))) (@bF _ _ _ _ _ _ _ _ _ _ _ ad2 ‹11› a8 (@aD _ _ _ _ _ _ ‹17› (@aB _)) ⋯ ⋯ ⋯ ⋯) (bK _)) ‹30› (@aR _)) (@aA _ _ _ _ _ (@bG _ _ _ _ _ _ _ _ (@cP _ _ _ _ (@zY _ _ _ _ _ _ _ _ _ _ _ _ jZ jZ ‹18› ‹28› (@aY _ _ _ _ _ _ _ _ _ (dQ K) (by rfl) T.ae2 iS (@aD _ _ _ _ _ _ (@bX _ _ (.ref aa8) _ _ (by rfl) T.ao9 (by rfl) ⋯) (@aB _)) ⋯ ⋯ ⋯ ⋯) ⋯)) ‹30› (@aR _)) (@aA _ _ _ _ _ (@aW _ _ (2) _ _ _ _ iX.nd (by rfl) (by first | exact Or.inl (by rfl) | exact Or.inr (by rfl)) (@bJ _ _ _ _ _ _ _ _ eZ (@bJ _ _ _ _ _ _ _ _ eZ (@bJ _ _ _ _ _ _ _ _ qN ‹28› ‹18›) (@bJ _ _ _ _ _ _ _ _ qN ‹28› ‹18›)) ‹28›) ⋯ ⋯) (@aA _ _ _ _ _ (@aW _ _ (3) _ _ _ _ iX.nd (by rfl) (by first | exact Or.inl (by rfl) | exact Or.inr (by rfl)) (@cB _ _ _ _ _ (@aN _ _ _ _ _ _ _ (@cX _ _ _ _ _ _ _ (cJ K) (@bX _ _ (.ref aa8) _ _ (by rfl) T.ao9 (by rfl) ⋯) (@bJ _ _ _ _ _ _ _ _ qM ‹28› ‹18›) (fun _ _=>rfl)) (@aD _ _ _ _ _ _ ‹20› (@aN _ _ _ _ _ _ _ (@eI _ _ _ _ _ _ _ _ _ _ (oG K) ‹16› (@fH _ _ _ (@bX _ _ (.int 7) _ _ (by rfl) ai1 ⟨_,rfl⟩ ⋯)) (@gO _)) (@aB _))))) ⋯ ⋯) (@aA _ _ _ _ _ (@bG _ _ _ _ _ _ _ _ (@cP _ _ _ _ (@dG _ _ _ (@bF _ _ _ _ _ _ _ _ _ _ _ ac8 ‹11› a8 (@aD _ _ _ _ _ _ ‹21› (@aB _)) ⋯ ⋯ ⋯ ⋯) ⋯)) ‹30› (@aR _)) (@aE _ _ _ (@bB _ _ _ _ ‹21›))))))),?_⟩
  have sq:SqT K H a (ns.map V.int):=SqT.of ha
  have lm:(ns.map V.int).length=ns.length:=length_map _
  have w2:HT.sIx (ns.map V.int).length 0 (some 2)=2:=by
   rw[lm]
   exact(HT.iZ ns.length 0 2).trans (min_eq_left (by omega))
  have w2':HT.sIx (ns.map V.int).length (ns.map V.int).length (some 2)=2:=by
   rw[lm]
   exact(HT.iZ ns.length ns.length 2).trans (min_eq_left (by omega))
  have w7:HT.sIx (ns.map V.int).length 0 (some 7)=7:=by
   rw[lm]
   exact(HT.iZ ns.length 0 7).trans (min_eq_left (by omega))
  have c2:iU (ns.map V.int) (some 2) none=(ns.drop 2).map V.int:=(uZ (lo:=2) (by omega)).trans (List.map_drop ..).symm
  have c2':iU (ns.map V.int) none (some 2)=(ns.take 2).map V.int:=(Ho (hi:=2) (by omega)).trans (List.map_take ..).symm
  have c7:iU (ns.map V.int) (some 7) none=(ns.drop 7).map V.int:=(uZ (lo:=7) (by omega)).trans (List.map_drop ..).symm
  refine⟨_,rfl,2,rfl,a,_,rfl,sq,fun z=>absurd z.1 (by rw[w2]; decide),fun _ p1 hp1=>?_⟩
  rw[c2]
  have S1:=aI (o:=.tup ((ns.drop 2).map V.int)) hp1
  generalize eH1:upd H p1 (.tup ((ns.drop 2).map V.int))=H1 at S1 ⊢
  have g1:H1 p1=some (.tup ((ns.drop 2).map V.int)):=by rw[<- eH1]; exact aC
  refine⟨_,rfl,2,rfl,a,_,rfl,S1.seqT sq,fun z=>absurd z.2 (by rw[w2',lm]; omega),fun _ p2 hp2=>?_⟩
  rw[c2']
  have S2:=aI (o:=.tup ((ns.take 2).map V.int)) hp2
  generalize eH2:upd H1 p2 (.tup ((ns.take 2).map V.int))=H2 at S2 ⊢
  have g2:H2 p2=some (.tup ((ns.take 2).map V.int)):=by rw[<- eH2]; exact aC
  refine⟨_,rfl,p1,ns.drop 2,rfl,S2 _ _ g1,by rw[length_drop]; omega,fun p3 H3 S3 g3=>?_⟩
  have den:∀ (p:Addr) (l:List Int),H3 p=some (.tup (l.map V.int))->Den H3 (.tuple (l.map .int)) (.ref p):=fun p l g=>by
   simp only[Den]
   exact⟨p,_,rfl,g,b8.mpr rfl⟩
  refine⟨_,_,den p2 _ (S3 _ _ g2),den p3 [(eU (ns.drop 2)).1,(eU (ns.drop 2)).2] g3,qX _,qX _,_,rfl,?_⟩
  rw[FJ]
  have SS:aG H H3:=S1.trans (S2.trans S3)
  unfold l8 at q qe
  by_cases hc:ns.take 2=[(eU (ns.drop 2)).1,(eU (ns.drop 2)).2]
  case neg=>
   rw[if_neg hc]at qe
   rw[decide_eq_false hc]
   exact aX ⟨(by show 1<=sizeLine; decide),qe rfl H3 SS⟩
  rw[if_pos hc]at q qe
  rw[decide_eq_true hc]
  refine bE ?_
  have sq1:SqT K H3 p1 ((ns.drop 2).map V.int):=SqT.of (S3 _ _ (S2 _ _ g1))
  have bat:∀ i,i<5->atI ((ns.drop 2).map V.int) ((i:Nat):Int)=some (.int (ns.getD (2+i) 0)):=fun i hi=>by
   rw[<- qP]
   exact bS (Fd (by rw[length_drop]; omega))
  refine⟨_,rfl,p1,_,_,_,rfl,rfl,sq1,bat 0 (by decide),_,_,rfl,rfl,_,rfl,?_⟩
  show if decide (1<=ns.getD 2 0)=true then _ else _
  by_cases h1:1<=ns.getD 2 0
  case neg=>
   rw[if_neg (fun z=>h1 z.1)]at qe
   rw[if_neg (by rw[decide_eq_true_eq]; exact h1)]
   exact⟨_,rfl,aX ⟨(by show 1<=sizeLine; decide),qe rfl H3 SS⟩⟩
  rw[if_pos (decide_eq_true h1)]
  refine⟨aa8,_,rfl,.inr (T.ap0 H3),_,_,rfl,rfl,_,rfl,?_⟩
  show if (!decide (ns.getD 2 0<=8))=true then _ else _
  by_cases h8:ns.getD 2 0<=8
  case neg=>
   rw[if_neg (fun z=>h8 z.2)]at qe
   rw[decide_eq_false h8]
   exact aX ⟨(by show 1<=sizeLine; decide),qe rfl H3 SS⟩
  rw[if_pos ⟨h1,h8⟩]at q qe
  rw[decide_eq_true h8]
  refine bE ?_
  refine⟨_,rfl,p1,_,_,_,rfl,rfl,sq1,bat 1 (by decide),_,_,rfl,rfl,.inr ⟨by decide,by decide⟩,_,rfl,p1,_,_,_,rfl,rfl,sq1,bat 2 (by decide),_,_,rfl,rfl,.inr ⟨by decide,by decide⟩,_,_,rfl,rfl,_,rfl,p1,_,_,_,rfl,rfl,sq1,bat 3 (by decide),_,_,rfl,rfl,?_⟩
  have hk:=E3 (i:=ns.getD 2 0 - 1) (by omega) (by omega)
  refine⟨_,rfl,p1,_,_,_,rfl,rfl,sq1,bat 0 (by decide),_,_,rfl,rfl,aa8,_,_,_,rfl,rfl,T.ap0 H3,hk,_,rfl,_,rfl,7,rfl,a,_,rfl,SS.seqT sq,fun z=>absurd z.1 (by rw[w7]; decide),fun _ p4 hp4=>?_⟩
  rw[c7]
  have S4:=aI (o:=.tup ((ns.drop 7).map V.int)) hp4
  generalize eH4:upd H3 p4 (.tup ((ns.drop 7).map V.int))=H4 at S4 ⊢
  have g4:H4 p4=some (.tup ((ns.drop 7).map V.int)):=by rw[<- eH4]; exact aC
  refine⟨(by show 3<=sizeLine; decide),fun p5 hp5=>?_⟩
  have S5:=aI (o:=.tup [.str (kinds.getD (ns.getD 2 0 - 1).toNat "put"),.int (ns.getD 3 0 * 65536+ns.getD 4 0 * 256+ns.getD 5 0),.ref p4]) hp5
  dsimp only at q qe
  generalize hd:(PyData.tuple [.str (kinds.getD (ns.getD 2 0 - 1).toNat "put"),.int (ns.getD 3 0 * 65536+ns.getD 4 0 * 256+ns.getD 5 0),.tuple ((ns.drop 7).map .int)])=d at q qe
  have dn:Den (upd H4 p5 (.tup [.str (kinds.getD (ns.getD 2 0 - 1).toNat "put"),.int (ns.getD 3 0 * 65536+ns.getD 4 0 * 256+ns.getD 5 0),.ref p4])) d (.ref p5):=by
   rw[<- hd]
   simp only[Den,aV]
   exact⟨p5,_,rfl,aC,_,_,rfl,rfl,_,_,rfl,rfl,_,_,rfl,⟨p4,_,rfl,S5 _ _ g4,b8.mpr rfl⟩,rfl⟩
  refine⟨_,rfl,.ref p5,d,rfl,dn,?_,fun H6 S6=>⟨_,rfl,?_⟩⟩
  ·rintro k n bs e
   rw[<- hd]at e
   injection e with e
   injection e with _ e
   injection e with _ e
   injection e with e _
   injection e with e
   rw[<- e,length_map,length_drop]
   exact le_trans (show _<=300 by omega) (by decide)
  cases hb:aS d with
  | false=>
   rw[if_neg (by rw[hb]; decide)]at qe
   exact aX ⟨(by show 1<=sizeLine; decide),qe rfl H6 (SS.trans (S4.trans (S5.trans S6)))⟩
  | true=>
   rw[if_pos hb]at q
   refine bE ⟨_,rfl,?_⟩
   exact q d rfl p5 H6 (SS.trans (S4.trans (S5.trans S6))) (dn.same S6)
end
def d8 (aa1 aa5:Addr):Sp:=fun vs H Q E=>∃ (v:V) (d:PyData),vs=[v]/\Den H d v/\(∀ bs,d = .tuple bs->bs.length<=sizeLine)/\(cD d=false->∀ H',aG H H'->E (.ref aa1) none H')/\
 (cD d=true->(∀ ds (k:Nat),gB ((a9 d).length+1) (a9 d)=some (ds,k)->∀ p H',aG H H'->Den H' (.tuple [.list ds,.int (k:Int)]) (.ref p)->(∀ l x,H' p=some (.tup [.ref l,x])->H l=none)->Q (.ref p) H')/\(gB ((a9 d).length+1) (a9 d)=none->∀ H',aG H H'->E (.ref aa5) none H'))
theorem BH (f:Nat) (ns:List Int):gB (f+1) ns=match qR ns with
  | none=>some ([],ns.length)
  | some e=>match l8 (ns.take e) with
   | none=>none
   | some d=>(gB f (ns.drop e)).map fun r=>(d::r.1,r.2):=rfl
theorem vT:∀ {a b:List PyData},dE a=true->dE b=true->dE (a++b)=true
 | [],b,_,h=>h
 | d::a,b,h1,h2=>by
  simp only[dE,and_eq_true]at h1
  show (lN d && dE (a++b))=true
  rw[h1.1,vT h1.2 h2]
  rfl
theorem uX {H:Hp} {d:PyData} {v:V} (h:Den H d v):aV H [d] [v]:=by
 simp only[aV]
 exact⟨v,[],rfl,h,rfl⟩
theorem ED {H H2:Hp} {l:Addr} {ys:List V} (h0:H l=none) (s:aG H H2):aG H (upd H2 l (.lst ys)):=fun c u e=>by
 rw[aF (bC e h0)]
 exact s c u e
theorem FV {H:Hp} {d:PyData} {v:V} (hd:Den H d v) (hb:cD d=true):∃ a,v = .ref a/\H a=some (.tup ((a9 d).map V.int)):=by
 cases d with
 | tuple bs=>
  simp only[Den]at hd
  obtain⟨a,ys,rfl,ha,hbs⟩:=hd
  have ei:=mH hbs hb
  subst ei
  exact⟨a,rfl,ha⟩
 | _=>exact absurd hb (by simp [cD])
theorem nX {d:PyData} (hb:cD d=true):dW (a9 d):=by
 cases d with
 | tuple bs=>
  have hb:bs.all (bN 0 255)=true:=hb
  rw[all_eq_true]at hb
  intro b hm
  have hm:b∈bs.map fun d=>match d with | .int i=>i | _=>0:=hm
  rw[mem_map]at hm
  obtain⟨d,h1,h2⟩:=hm
  have h3:=hb d h1
  cases d with
  | int i=>
   have h2:i=b:=h2
   subst h2
   simpa [bN] using h3
  | _=>exact absurd h3 (by simp [bN])
 | _=>exact absurd hb (by simp [cD])
theorem E6 {bs:List PyData}:(a9 (.tuple bs)).length=bs.length:=length_map _
theorem CB {K:PySem.W.Frag} {a:Addr} {xs:List V} {lo hi:Option Int} {H:Hp} {Q:VK} (ha:H a=some (.tup xs)) (h:∀ b H4,aG H H4->H4 b=some (.tup (iU xs lo hi))->Q (.ref b) H4):ER K (.ref a) lo hi H Q:=by
 refine⟨a,xs,rfl,SqT.of ha,fun z=>?_,fun _ p hp=>h p _ (aI hp) aC⟩
 refine h a H (aG.refl H) ?_
 rw[ha]
 unfold iU
 rw[z.1,z.2,List.drop_zero,Nat.sub_zero,take_length]
section
variable {P:Program} {w:World} {K:PySem.W.Frag} {mg:Str->Option Value} {base:Heap} {aa8 aa1 aa5:Addr}
theorem gF:FnScope ["some","rows","start","end"] ["some"] (aH pS):=‹0›
theorem BN {f:Addr} {fd:FuncData} (F:Fun K "rows_in" "rows_in" pS f fd) (T:TxtB K mg aa8 aa1 aa5) (ac1:‹7› "is_bytes" 2 ["thing"] gS)
  (ai8:‹7› "row_end" 1 ["some","start"] nD) (al9:‹7› "row_from" 4 ["whole"] (lR aa5)):‹6› 5 f fd ["some"] (d8 aa1 aa5):=by
 refine F.okX gF (fun vs H Q E h=>?_) (fun cdv A outer s H vs Q E hr h=>?_)
 ·obtain⟨v,d,rfl,_⟩:=h
  rfl
 ·obtain⟨v,d,rfl,hd,hz,qb,q⟩:=h
  refine⟨_,@aA _ _ _ _ _ (@bG _ _ _ _ _ _ _ _ (@cP _ _ _ _ (@dG _ _ _ (@bF _ _ _ _ _ _ _ _ _ _ _ ac1 ‹11› a8 (@aD _ _ _ _ _ _ ‹16› (@aB _)) ⋯ ⋯ ⋯ ⋯) ⋯)) (@aE _ _ _ (@dM _ _ _ _ _ _ _ _ _ _ fG (by rfl) T.af2 (by rfl) T.bc2 (@aP _ _ _ _ _ _ _ (@cW _ _ _ _) (@aB _)) ⋯ ⋯ ⋯)) (@aR _)) (@aA _ _ _ _ _ (@aW _ _ (1) _ _ _ _ gF.nd (by rfl) (by first | exact Or.inl (by rfl) | exact Or.inr (by rfl)) (@jF _ _ _ _ (@aB _)) ⋯ ⋯) (@aA _ _ _ _ _ (@aW _ _ (2) _ _ _ _ gF.nd (by rfl) (by first | exact Or.inl (by rfl) | exact Or.inr (by rfl)) ‹18› ⋯ ⋯) (@aA _ _ _ _ _ (@aW _ _ (3) _ _ _ _ gF.nd (by rfl) (by first | exact Or.inl (by rfl) | exact Or.inr (by rfl)) (@bF _ _ _ _ _ _ _ _ _ _ _ ai8 ‹11› a8 (@aD _ _ _ _ _ _ ‹16› (@aD _ _ _ _ _ _ ‹20› (@aB _))) ⋯ ⋯ ⋯ ⋯) ⋯ ⋯) (@aA _ _ _ _ _ (@zZ _ _ _ _ _ _ (m6 eM) (@aZ _ _ _ _ _ _ _ _ yH ‹21› (@lB _ _ _) (bK _)) (@aA _ _ _ _ _ (aT (nT K PySem.F.plainAttrs_list PySem.F.slot_list_append PySem.F.type_list_append kA (pv 1) (eT (bF al9 ‹11› bO (aN (eI (oG K) (pv 0) (fH (pv 2)) (fH (pv 3))) aB)) aB))) (@aA _ _ _ _ _ (@aW _ _ (2) _ _ _ _ gF.nd (by rfl) (by first | exact Or.inl (by rfl) | exact Or.inr (by rfl)) ‹21› ⋯ ⋯) (@aE _ _ _ (@aW _ _ (3) _ _ _ _ gF.nd (by rfl) (by first | exact Or.inl (by rfl) | exact Or.inr (by rfl)) (@bF _ _ _ _ _ _ _ _ _ _ _ ai8 ‹11› a8 (@aD _ _ _ _ _ _ ‹16› (@aD _ _ _ _ _ _ ‹20› (@aB _))) ⋯ ⋯ ⋯ ⋯) ⋯ ⋯))))) (@aE _ _ _ (@bB _ _ _ _ (@cB _ _ _ _ _ (@aD _ _ _ _ _ _ ‹17› (@cG _ _ _ _ _ _ _ _ (@bJ _ _ _ _ _ _ _ _ qM (@aY _ _ _ _ _ _ _ _ _ (dQ K) (by rfl) T.ae2 iS (@aD _ _ _ _ _ _ ‹16› (@aB _)) ⋯ ⋯ ⋯ ⋯) ‹20›) (@aB _)))))))))),?_⟩
  refine⟨_,rfl,v,d,rfl,hd,hz,fun H1 S1=>⟨_,rfl,?_⟩⟩
  cases hb:cD d with
  | false=>exact aX ⟨(by show 1<=sizeLine; decide),qb hb H1 S1⟩
  | true=>
  refine bE ?_
  obtain⟨q,qe⟩:=q hb
  obtain⟨a,rfl,ha⟩:=FV hd hb
  have bo:=nX hb
  have hns:(a9 d).length<=sizeLine:=by
   cases d with
   | tuple bs=>rw[E6]; exact hz bs rfl
   | _=>exact absurd hb (by simp [cD])
  generalize a9 d=ns at *
  refine⟨(by show 0<=sizeLine; decide),fun rl hrl=>?_⟩
  have S2:=aI (o:=.lst []) hrl
  generalize eH2:upd H1 rl (.lst [])=H2 at S2 ⊢
  have g2:H2 rl=some (.lst []):=by rw[<- eH2]; exact aC
  have hrl0:H rl=none:=S1.free hrl
  have SS:aG H H2:=S1.trans S2
  refine⟨_,rfl,_,rfl,a,ns,0,rfl,SS _ _ ha,bo,zero_le _,?_⟩
  refine⟨fun m σ H3=>∃ (st f:Nat) (ds:List PyData) (xs:List V),m=ns.length - st/\st<=ns.length/\ns.length<st+f/\σ = [some (.ref a),some (.ref rl),some (.int (st:Int)),some (Hm st (qR (ns.drop st)))]/\aG H H3/\
   H3 rl=some (.lst xs)/\aV H3 ds xs/\dE ds=true/\ds.length<=st/\gB (ns.length+1) ns=(gB f (ns.drop st)).map fun r=>(ds++r.1,r.2),⟨_,0,ns.length+1,[],[],rfl,zero_le _,by omega,rfl,SS,g2,by simp only[aV],rfl,le_refl _,?_⟩,?_⟩
  ·simp
  rintro m σ H3 ⟨st,f,ds,xs,rfl,hst,hf,rfl,S3,g3,dn,td,hl,er⟩
  obtain⟨f,rfl⟩:∃ g,f=g+1:=⟨f - 1,by omega⟩
  rw[BH f]at er
  have ldr:(ns.drop st).length=ns.length - st:=length_drop
  refine⟨_,rfl,rfl,_,rfl,?_⟩
  cases he:qR (ns.drop st) with
  | none=>
   rw[he]at er
   refine bE ?_
   have er:gB (ns.length+1) ns=some (ds++[],(ns.drop st).length):=er
   rw[append_nil,ldr]at er
   refine⟨_,rfl,_,rfl,a,_,rfl,.inr (SqT.of (S3 _ _ ha)),_,rfl,_,_,rfl,rfl,(by show 2<=sizeLine; decide),fun p hp=>?_⟩
   have S4:=aI (o:=.tup [.ref rl,.int (((ns.map V.int).length:Int) - (st:Int))]) hp
   refine q ds (ns.length - st) er p _ (S3.trans S4) ?_ (fun l x e=>by rw[aC]at e; cases e; exact hrl0)
   have e1:(((ns.map V.int).length:Int) - (st:Int))=((ns.length - st:Nat):Int):=by rw[length_map]; omega
   simp only[Den,aV]
   exact⟨p,_,rfl,aC,_,_,rfl,⟨rl,xs,rfl,S4 _ _ g3,dn.same S4⟩,_,_,rfl,by rw[e1],rfl⟩
  | some e=>
   rw[he]at er
   obtain⟨e7,ele⟩:=GZ he
   rw[ldr]at ele
   have hsz:ns.length<=sizeLine:=hns
   refine aX ⟨fun σ' H'=>∃ m',m'<ns.length - st/\∃ (st f:Nat) (ds:List PyData) (xs:List V),m'=ns.length - st/\st<=ns.length/\ns.length<st+f/\σ'=[some (.ref a),some (.ref rl),some (.int (st:Int)),some (Hm st (qR (ns.drop st)))]/\aG H H'/\
    H' rl=some (.lst xs)/\aV H' ds xs/\dE ds=true/\ds.length<=st/\gB (ns.length+1) ns=(gB f (ns.drop st)).map fun r=>(ds++r.1,r.2),fun _ _ h=>h,?_⟩
   refine⟨_,rfl,.inl ⟨rfl,_,SqL.of g3⟩,?_⟩
   refine⟨_,rfl,_,rfl,_,rfl,_,rfl,_,rfl,CB (S3 _ _ ha) fun b H4 S4 g4=>?_⟩
   have ec:iU (ns.map V.int) (some (st:Int)) (some ((st+e:Nat):Int))=((ns.drop st).take e).map V.int:=by
    rw[Gb (by omega) (by rw[length_map]; omega),<- List.map_drop,<- List.map_take,Nat.add_sub_cancel_left]
   rw[ec]at g4
   have er:gB (ns.length+1) ns=Option.map (fun(r:List PyData × Nat)=>(ds++r.1,r.2)) (match l8 ((ns.drop st).take e) with
    | none=>none
    | some d=>Option.map (fun r=>(d::r.1,r.2)) (gB f ((ns.drop st).drop e))):=er
   have le:((ns.drop st).take e).length=e:=by rw[length_take,ldr]; omega
   have h262:e<=262:=by
    have h6:st+6<ns.length:=by omega
    have b6:=bo _ (AV h6)
    unfold qR at he
    rw[ldr,qP,if_neg (by omega)]at he
    split at he
    ·have:=Option.some.inj he
     omega
    ·cases he
   refine⟨b,_,rfl,g4,by rw[le]; omega,by rw[le]; omega,fun d' hd' p H5 S5 dp=>?_,fun hn H5 S5=>?_⟩
   ·rw[hd']at er
    have S35:aG H3 H5:=S4.trans S5
    refine⟨rl,xs,.ref p,rfl,rfl,S35 _ _ g3,?_,?_⟩
    ·rw[dn.length]
     omega
    have N5:=v5 (zs:=xs++[.ref p]) (S35 _ _ g3)
    have S6:aG H (upd H5 rl (.lst (xs++[.ref p]))):=ED hrl0 (S3.trans S35)
    have D6:aV (upd H5 rl (.lst (xs++[.ref p]))) (ds++[d']) (xs++[.ref p]):=((dn.same S35).n N5 td).app (uX (dp.n N5 (wD hd')))
    have g6:upd H5 rl (.lst (xs++[.ref p])) rl=some (.lst (xs++[.ref p])):=aC
    generalize upd H5 rl (.lst (xs++[.ref p]))=H6 at S6 D6 g6 ⊢
    refine⟨_,rfl,_,rfl,_,rfl,a,ns,st+e,rfl,S6 _ _ ha,bo,by omega,?_⟩
    refine⟨_,?_,st+e,f,ds++[d'],xs++[.ref p],rfl,by omega,by omega,rfl,S6,g6,D6,vT td ?_,?_,?_⟩
    ·omega
    ·show (lN d' && true)=true
     rw[wD hd']
     rfl
    ·rw[length_append]
     show _+1<=_
     omega
    ·rw[er,List.drop_drop]
     cases gB f (ns.drop (st+e)) with
     | none=>rfl
     | some r=>simp
   ·rw[hn]at er
    exact qe er H5 (S3.trans (S4.trans S5))
end
mutual
noncomputable def jR:PyData->Bool
 | .none | .bool _ | .int _=>true
 | .str x=>PyData.strOk x
 | .tuple ds=>jQ ds
 | .list ds=>jQ ds
 | .dict _=>false
noncomputable def jQ:List PyData->Bool
 | []=>true
 | d::ds=>jR d && jQ ds
end
mutual
theorem uU:∀ {d:PyData},jR d=true->PyData.eqv d d=true
 | .none,_=>rfl
 | .bool b,_=>by cases b <;> rfl
 | .int i,_=>by simp [PyData.eqv]
 | .str x,_=>by simp [PyData.eqv]
 | .tuple ds,h=>by
  simp only[jR]at h
  simp only[PyData.eqv]
  exact qQ h
 | .list ds,h=>by
  simp only[jR]at h
  simp only[PyData.eqv]
  exact qQ h
 | .dict _,h=>by simp [jR]at h
theorem qQ:∀ {ds:List PyData},jQ ds=true->PyData.eqvAll ds ds=true
 | [],_=>rfl
 | d::ds,h=>by
  simp only[jQ,and_eq_true]at h
  simp only[PyData.eqvAll]
  rw[uU h.1,qQ h.2]
  rfl
end
mutual
theorem CS:∀ {d:PyData},jR d=true->PyData.canLay0 d=true
 | .none,_=>rfl
 | .bool b,_=>rfl
 | .int i,_=>rfl
 | .str x,h=>by
  simp only[jR]at h
  simp only[PyData.canLay0]
  exact h
 | .tuple ds,h=>by
  simp only[jR]at h
  simp only[PyData.canLay0]
  exact uH h
 | .list ds,h=>by
  simp only[jR]at h
  simp only[PyData.canLay0]
  exact uH h
 | .dict _,h=>by simp [jR]at h
theorem uH:∀ {ds:List PyData},jQ ds=true->PyData.canLayAll0 ds=true
 | [],_=>rfl
 | d::ds,h=>by
  simp only[jQ,and_eq_true]at h
  simp only[PyData.canLayAll0]
  rw[CS h.1,uH h.2]
  rfl
end
theorem xA {n:Nat}:∀ {ds:List PyData},(∀ d∈ds,PyData.depth d<=n)->PyData.depthAll ds<=n
 | [],_=>zero_le _
 | d::ds,h=>by
  simp only[PyData.depthAll]
  exact Nat.max_le.mpr ⟨h d (by simp),xA fun x hx=>h x (by simp [hx])⟩
theorem sT:∀ {ds:List PyData},(∀ d∈ds,jR d=true)->jQ ds=true
 | [],_=>rfl
 | d::ds,h=>by
  simp only[jQ]
  rw[h d (by simp),sT fun x hx=>h x (by simp [hx])]
  rfl
theorem zO (ns:List Int):jQ (ns.map .int)=true:=sT fun d hd=>by
 rw[mem_map]at hd
 obtain⟨i,_,rfl⟩:=hd
 rfl
theorem mO {d:PyData} (h:jR d=true) (hd:PyData.depth d<=64):SeqAt.shaped d=true:=by
 unfold SeqAt.shaped
 rw[CS h,decide_eq_true hd]
 rfl
theorem FW:bootBuiltins "max" = some (.builtin "max"):=by decide +kernel
theorem gJ:bootBuiltins "sorted" = some (.builtin "sorted"):=by decide +kernel
theorem hu1 {a c:Nat} (h:a+64<c):a+1<c:=by omega
noncomputable abbrev Ent:=List Int × Int × Int
noncomputable def f9 (k:Str) (n:Int) (ns:List Int):PyData:=.tuple [.str k,.int n,.tuple (ns.map .int)]
structure Bk where
 es:List (Int × Ent)
 up:Int
 parts:List (Int × List Int)
noncomputable def aM (es:List (Int × Ent)) (n:Int):Option Ent:=(es.find? fun p=>decide (p.1=n)).map (·.2)
noncomputable def cN (es:List (Int × Ent)) (n:Int) (e:Ent):List (Int × Ent):=if (es.any fun p=>decide (p.1=n))=true then es.map (fun p=>if p.1=n then (p.1,e) else p) else es++[(n,e)]
noncomputable def c8 (es:List (Int × Ent)) (n:Int):List (Int × Ent):=es.filter fun p=>decide (p.1≠n)
noncomputable def oU (B:Bk) (n:Int) (body:List Int) (seg:Int):Option Bk:=if n<B.up then none else some ⟨cN B.es n (body,0,seg),n+1,B.parts⟩
noncomputable def puts (seg:Int):Bk->List (Int × List Int)->Option Bk
 | B,[]=>some B
 | B,p::ps=>match oU B p.1 p.2 seg with
  | none=>none
  | some B'=>puts seg B' ps
noncomputable def Af (B:Bk) (n m:Int) (seg:Int):Option Bk:=if B.parts.map (·.1)=(List.range m.toNat).map (fun(k:Nat)=>n+(k:Int)) then puts seg ⟨B.es,B.up,[]⟩ B.parts else none
noncomputable def Ey (i j:Int):Int:=if j > i then j else i
noncomputable def dJ (B:Bk) (k:Str) (n:Int) (body:List Int) (seg:Int):Option Bk:=
 if k = "part" then some ⟨B.es,B.up,B.parts++[(n,body)]⟩
 else if k = "deal" then Af B n (body.getD 0 0) seg
 else if B.parts≠[] then none
 else if k = "put" then oU B n body seg
 else if k = "from" then some ⟨B.es,Ey B.up n,B.parts⟩
 else if k = "carried" then some ⟨cN B.es n (body.drop 1,body.getD 0 0,seg),Ey B.up (n+1),B.parts⟩
 else match aM B.es n with
  | none=>some B
  | some e=>if k = "out" then some ⟨cN B.es n (e.1,e.2.1+1,e.2.2),B.up,B.parts⟩ else if k = "new" then some ⟨cN B.es n (e.1,0,e.2.2),B.up,B.parts⟩ else some ⟨c8 B.es n,B.up,B.parts⟩
theorem jX (es:List (Int × Ent)) (n:Int) (e:Ent):(cN es n e).length<=es.length+1:=by
 unfold cN
 split
 ·rw[length_map]
  omega
 ·rw[length_append]
  exact le_refl _
def gA (H H':Hp):Prop:=∀ b xs,H b=some (.tup xs)->H' b=some (.tup xs)
theorem aG.tup {H H':Hp} (s:aG H H'):gA H H':=fun b xs e=>s b _ e
theorem gA.trans {H H1 H2:Hp} (a:gA H H1) (b:gA H1 H2):gA H H2:=fun c xs e=>b c xs (a c xs e)
mutual
theorem Ce {H H':Hp} (e:gA H H'):∀ {d:PyData} {v:V},lN d=true->Den H d v->Den H' d v
 | .none,v,t,h=>by simp only[Den]at h ⊢; exact h
 | .bool b,v,t,h=>by simp only[Den]at h ⊢; exact h
 | .int i,v,t,h=>by simp only[Den]at h ⊢; exact h
 | .str x,v,t,h=>by simp only[Den]at h ⊢; exact h
 | .tuple ds,v,t,h=>by
  simp only[Den]at h ⊢
  simp only[lN]at t
  obtain⟨a,xs,e1,h1,h2⟩:=h
  exact⟨a,xs,e1,e _ _ h1,iR e t h2⟩
 | .list ds,v,t,h=>by simp [lN]at t
 | .dict _,v,t,h=>by simp only[Den]at h
theorem iR {H H':Hp} (e:gA H H'):∀ {ds:List PyData} {xs:List V},dE ds=true->aV H ds xs->aV H' ds xs
 | [],xs,t,h=>by simp only[aV]at h ⊢; exact h
 | d::ds,xs,t,h=>by
  simp only[aV]at h ⊢
  simp only[dE,and_eq_true]at t
  obtain⟨x,r,e1,h1,h2⟩:=h
  exact⟨x,r,e1,Ce e t.1 h1,iR e t.2 h2⟩
end
def lM (H:Hp) (v:V) (e:Ent):Prop:=∃ t b,v = .ref t/\H t=some (.tup [.ref b,.int e.2.1,.int e.2.2])/\H b=some (.tup (e.1.map V.int))
theorem lM.t {H H':Hp} {v:V} {e:Ent} (s:gA H H') (h:lM H v e):lM H' v e:=by
 obtain⟨t,b,e1,h1,h2⟩:=h
 exact⟨t,b,e1,s _ _ h1,s _ _ h2⟩
def EsR (H:Hp):List (Int × Ent)->List (Key × V)->Prop
 | [],[]=>True
 | p::es,q::kvs=>q.1=Sum.inl p.1/\lM H q.2 p.2/\EsR H es kvs
 | _,_=>False
theorem EsR.t {H H':Hp} (s:gA H H'):∀ {es:List (Int × Ent)} {kvs:List (Key × V)},EsR H es kvs->EsR H' es kvs
 | [],[],_=>trivial
 | p::es,q::kvs,h=>⟨h.1,h.2.1.t s,EsR.t s h.2.2⟩
 | [],_::_,h=>h.elim
 | _::_,[],h=>h.elim
theorem EsR.len {H:Hp}:∀ {es:List (Int × Ent)} {kvs:List (Key × V)},EsR H es kvs->kvs.length=es.length
 | [],[],_=>rfl
 | p::es,q::kvs,h=>by rw[length_cons,length_cons,EsR.len h.2.2]
 | [],_::_,h=>h.elim
 | _::_,[],h=>h.elim
theorem EsR.keys {H:Hp}:∀ {es:List (Int × Ent)} {kvs:List (Key × V)},EsR H es kvs->kvs.map (·.1)=(es.map (·.1)).map Sum.inl
 | [],[],_=>rfl
 | p::es,q::kvs,h=>by rw[map_cons,map_cons,map_cons,h.1,EsR.keys h.2.2]
 | [],_::_,h=>h.elim
 | _::_,[],h=>h.elim
theorem yV {a b:Int}:((Sum.inl a:Key)=Sum.inl b) ↔ a=b:=⟨Sum.inl.inj,fun h=>by rw[h]⟩
theorem EsR.val {H:Hp} {n:Int}:∀ {es:List (Int × Ent)} {kvs:List (Key × V)},EsR H es kvs->(match aM es n with | none=>dS kvs (Sum.inl n)=none | some e=>∃ v,dS kvs (Sum.inl n)=some v/\lM H v e)
 | [],[],_=>rfl
 | p::es,q::kvs,h=>by
  obtain⟨h1,h2,h3⟩:=h
  have ih:=EsR.val (n:=n) h3
  by_cases e:p.1=n
  ·have:aM (p::es) n=some p.2:=by simp [aM,e]
   rw[this]
   exact⟨q.2,iH (by rw[h1,e]),h2⟩
  ·have e1:aM (p::es) n=aM es n:=by simp [aM,e]
   have e2:dS (q::kvs) (Sum.inl n)=dS kvs (Sum.inl n):=iI (by rw[h1,yV]; exact e)
   rw[e1,e2]
   exact ih
 | [],_::_,h=>h.elim
 | _::_,[],h=>h.elim
theorem EsR.any {H:Hp} {n:Int}:∀ {es:List (Int × Ent)} {kvs:List (Key × V)},EsR H es kvs->(kvs.any fun kv=>decide (kv.1=Sum.inl n))=(es.any fun p=>decide (p.1=n))
 | [],[],_=>rfl
 | p::es,q::kvs,h=>by
  obtain⟨h1,h2,h3⟩:=h
  rw[any_cons,any_cons,EsR.any h3,h1]
  congr 1
  exact decide_eq_decide.mpr yV
 | [],_::_,h=>h.elim
 | _::_,[],h=>h.elim
theorem EsR.mapP {H:Hp} {n:Int} {e:Ent} {v:V} (hv:lM H v e):∀ {es:List (Int × Ent)} {kvs:List (Key × V)},EsR H es kvs->EsR H (es.map fun p=>if p.1=n then (p.1,e) else p) (kvs.map fun kv=>if kv.1=Sum.inl n then (kv.1,v) else kv)
 | [],[],_=>trivial
 | p::es,q::kvs,h=>by
  obtain⟨h1,h2,h3⟩:=h
  rw[map_cons,map_cons]
  by_cases z:p.1=n
  ·rw[if_pos z,if_pos (show q.1=Sum.inl n by rw[h1,z])]
   exact⟨h1,hv,EsR.mapP hv h3⟩
  ·rw[if_neg z,if_neg (show ¬ q.1=Sum.inl n by rw[h1,yV]; exact z)]
   exact⟨h1,h2,EsR.mapP hv h3⟩
 | [],_::_,h=>h.elim
 | _::_,[],h=>h.elim
theorem EsR.snoc {H:Hp} {n:Int} {e:Ent} {v:V} (hv:lM H v e):∀ {es:List (Int × Ent)} {kvs:List (Key × V)},EsR H es kvs->EsR H (es++[(n,e)]) (kvs++[(Sum.inl n,v)])
 | [],[],_=>⟨rfl,hv,trivial⟩
 | p::es,q::kvs,h=>⟨h.1,h.2.1,EsR.snoc hv h.2.2⟩
 | [],_::_,h=>h.elim
 | _::_,[],h=>h.elim
theorem EsR.put {H:Hp} {es:List (Int × Ent)} {kvs:List (Key × V)} (h:EsR H es kvs) {n:Int} {e:Ent} {v:V} (hv:lM H v e):EsR H (cN es n e) (iB kvs (Sum.inl n) v):=by
 unfold cN iB
 rw[h.any]
 by_cases z:(es.any fun p=>decide (p.1=n))=true
 ·rw[if_pos z,if_pos z]
  exact h.mapP hv
 ·rw[if_neg z,if_neg z]
  exact h.snoc hv
theorem EsR.drop {H:Hp} {n:Int}:∀ {es:List (Int × Ent)} {kvs:List (Key × V)},EsR H es kvs->EsR H (c8 es n) (hJ kvs (Sum.inl n))
 | [],[],_=>trivial
 | p::es,q::kvs,h=>by
  obtain⟨h1,h2,h3⟩:=h
  have ih:=EsR.drop (n:=n) h3
  by_cases z:p.1=n
  ·have e1:c8 (p::es) n=c8 es n:=by simp [c8,z]
   rw[e1,wX (by rw[h1,z])]
   exact ih
  ·have e1:c8 (p::es) n=p::c8 es n:=by simp [c8,z]
   rw[e1,wY (by rw[h1,yV]; exact z)]
   exact⟨h1,h2,ih⟩
 | [],_::_,h=>h.elim
 | _::_,[],h=>h.elim
noncomputable def fJ (ps:List (Int × List Int)):List PyData:=ps.map fun p=>f9 "part" p.1 p.2
theorem mR (k:Str) (n:Int) (ns:List Int):lN (f9 k n ns)=true:=by
 have tl:∀ l:List Int,dE (l.map PyData.int)=true:=by
  intro l
  induction l with
  | nil=>rfl
  | cons x l ih=>exact ih
 unfold f9
 simp only[lN,dE,Bool.true_and,Bool.and_true]
 exact tl ns
theorem iF:∀ ps:List (Int × List Int),dE (fJ ps)=true
 | []=>rfl
 | p::ps=>by
  show (lN (f9 "part" p.1 p.2) && dE (fJ ps))=true
  rw[mR,iF ps]
  rfl
noncomputable def bkF (de dp:Addr) (up:Int):List (Str × V):=[("entries",.ref de),("upcoming",.int up),("parts",.ref dp)]
structure BookAt (C:Addr) (H:Hp) (bk de dp:Addr) (B:Bk):Prop where
 self:∃ dx,H bk=some (.ins C dx (bkF de dp B.up))
 ent:∃ kvs,H de=some (.dK kvs)/\EsR H B.es kvs
 par:∃ ps,H dp=some (.lst ps)/\aV H (fJ B.parts) ps
def Frm (bk de dp:Addr) (H H':Hp):Prop:=∀ b o,H b=some o->b≠bk->b≠de->b≠dp->H' b=some o
theorem Frm.refl (bk de dp:Addr) (H:Hp):Frm bk de dp H H:=fun _ _ e _ _ _=>e
theorem Frm.trans {bk de dp dp':Addr} {H H1 H2:Hp} (a:Frm bk de dp H H1) (b:Frm bk de dp' H1 H2) (hd:dp'=dp\/H dp'=none):Frm bk de dp H H2:=fun c o e h1 h2 h3=>by
 refine b c o (a c o e h1 h2 h3) h1 h2 ?_
 rintro rfl
 rcases hd with rfl | hd
 ·exact h3 rfl
 ·rw[hd]at e
  cases e
theorem aG.frm {bk de dp:Addr} {H H':Hp} (s:aG H H'):Frm bk de dp H H':=fun b o e _ _ _=>s b o e
theorem BookAt.tup {C bk de dp:Addr} {H H':Hp} {B:Bk} (h:BookAt C H bk de dp B) (f:Frm bk de dp H H'):gA H H':=fun b xs e=>by
 obtain⟨dx,h1⟩:=h.self
 obtain⟨kvs,h2,_⟩:=h.ent
 obtain⟨ps,h3,_⟩:=h.par
 exact f b _ e (by rintro rfl; rw[h1]at e; cases e) (by rintro rfl; rw[h2]at e; cases e) (by rintro rfl; rw[h3]at e; cases e)
theorem BookAt.same {C bk de dp:Addr} {H H':Hp} {B:Bk} (h:BookAt C H bk de dp B) (s:aG H H'):BookAt C H' bk de dp B:=by
 obtain⟨dx,h1⟩:=h.self
 obtain⟨kvs,h2,h3⟩:=h.ent
 obtain⟨ps,h4,h5⟩:=h.par
 exact⟨⟨dx,s _ _ h1⟩,⟨kvs,s _ _ h2,h3.t (aG.tup s)⟩,⟨ps,s _ _ h4,h5.same s⟩⟩
theorem BookAt.ne {C bk de dp:Addr} {H:Hp} {B:Bk} (h:BookAt C H bk de dp B):bk≠de/\bk≠dp/\de≠dp:=by
 obtain⟨dx,h1⟩:=h.self
 obtain⟨kvs,h2,h3⟩:=h.ent
 obtain⟨ps,h4,h5⟩:=h.par
 refine⟨?_,?_,?_⟩
 ·rintro rfl
  rw[h1]at h2
  cases h2
 ·rintro rfl
  rw[h1]at h4
  cases h4
 ·rintro rfl
  rw[h2]at h4
  cases h4
theorem iV {H:Hp} {a:Addr} {o o':HO} (h:H a=some o) (hn:∀ xs,o ≠ .tup xs):gA H (upd H a o'):=fun b xs e=>by
 rw[aF (fun z=>by rw[z,h]at e; exact hn xs (Option.some.inj e))]
 exact e
theorem u7 {C bk de dp:Addr} {H:Hp} {B:Bk} (h:BookAt C H bk de dp B) {kvs':List (Key × V)} {es':List (Int × Ent)} (hr:EsR H es' kvs'):BookAt C (upd H de (.dK kvs')) bk de dp ⟨es',B.up,B.parts⟩:=by
 obtain⟨n1,n2,n3⟩:=h.ne
 obtain⟨dx,h1⟩:=h.self
 obtain⟨kvs,h2,h3⟩:=h.ent
 obtain⟨ps,h4,h5⟩:=h.par
 have t:=iV (o':=.dK kvs') h2 (fun xs z=>by cases z)
 exact⟨⟨dx,by rw[aF n1]; exact h1⟩,⟨kvs',aC,hr.t t⟩,⟨ps,by rw[aF (Ne.symm n3)]; exact h4,iR t (iF _) h5⟩⟩
theorem sA {C bk de dp dx dp':Addr} {H:Hp} {B:Bk} (h:BookAt C H bk de dp B) (u:Int) {ps:List V} {parts:List (Int × List Int)} (h4:H dp'=some (.lst ps)) (h5:aV H (fJ parts) ps):BookAt C (upd H bk (.ins C dx (bkF de dp' u))) bk de dp' ⟨B.es,u,parts⟩:=by
 obtain⟨n1,n2,n3⟩:=h.ne
 obtain⟨dx0,h1⟩:=h.self
 obtain⟨kvs,h2,h3⟩:=h.ent
 have t:=iV (o':=.ins C dx (bkF de dp' u)) h1 (fun xs z=>by cases z)
 have n4:dp'≠bk:=by
  rintro rfl
  rw[h1]at h4
  cases h4
 exact⟨⟨dx,aC⟩,⟨kvs,by rw[aF (Ne.symm n1)]; exact h2,h3.t t⟩,⟨ps,by rw[aF n4]; exact h4,iR t (iF _) h5⟩⟩
theorem Hu {C bk de dp:Addr} {H:Hp} {B:Bk} (h:BookAt C H bk de dp B) {ps:List V} {parts:List (Int × List Int)} (h5:aV H (fJ parts) ps):BookAt C (upd H dp (.lst ps)) bk de dp ⟨B.es,B.up,parts⟩:=by
 obtain⟨n1,n2,n3⟩:=h.ne
 obtain⟨dx0,h1⟩:=h.self
 obtain⟨kvs,h2,h3⟩:=h.ent
 obtain⟨ps0,h4,_⟩:=h.par
 have t:=iV (o':=.lst ps) h4 (fun xs z=>by cases z)
 exact⟨⟨dx0,by rw[aF n2]; exact h1⟩,⟨kvs,by rw[aF n3]; exact h2,h3.t t⟩,⟨ps,aC,iR t (iF _) h5⟩⟩
theorem yY {bk de dp:Addr} {H:Hp} {o:HO}:Frm bk de dp H (upd H bk o):=fun b u e h1 _ _=>by rw[aF h1]; exact e
theorem uR {bk de dp:Addr} {H:Hp} {o:HO}:Frm bk de dp H (upd H de o):=fun b u e _ h1 _=>by rw[aF h1]; exact e
theorem Hk {bk de dp:Addr} {H:Hp} {o:HO}:Frm bk de dp H (upd H dp o):=fun b u e _ _ h1=>by rw[aF h1]; exact e
theorem BJ {de dp dp':Addr} {u:Int}:gX "parts" (.ref dp') (bkF de dp u)=bkF de dp' u:=rfl
structure TxtK (K:PySem.W.Frag) (mg:Str->Option Value) (aa8 aa1 aa5 aa2:Addr):Prop extends TxtR K mg aa8 aa1 where
 ar8:mg "list" = none
 bu4:mg "max" = none
 ac9:mg "sorted" = none
 ad7:cU K aa5=true
 ap8:mg "Broken" = some (.ref aa5)
 cl:Cls K aa2
 ab7:cK K aa2 "entries"
 ab5:cK K aa2 "upcoming"
 ak8:cK K aa2 "parts"
noncomputable abbrev BA:Stmt:=bL (top 35) 0
noncomputable abbrev yB:Stmt:=bL (top 35) 1
noncomputable abbrev l4:Stmt:=bL (top 35) 2
noncomputable abbrev kS:Stmt:=bL (top 35) 3
noncomputable abbrev tJ:Stmt:=bL (top 35) 4
noncomputable abbrev tH:Stmt:=bL (top 35) 5
noncomputable abbrev qA:Stmt:=bL (top 35) 6
def hX (C aa5:Addr):Sp:=fun vs H Q E=>∃ (bk de dp b:Addr) (B:Bk) (n seg:Int) (body:List Int),vs=[.ref bk,.int n,.ref b,.int seg]/\BookAt C H bk de dp B/\H b=some (.tup (body.map V.int))/\B.es.length<1000/\
 (∀ B',oU B n body seg=some B'->∀ H',Frm bk de dp H H'->BookAt C H' bk de dp B'->Q .non H')/\(oU B n body seg=none->∀ H',Frm bk de dp H H'->E (.ref aa5) none H')
def pJ (C:Addr):Sp:=fun vs H Q _=>∃ (bk de dp:Addr) (B:Bk) (k:Str) (n:Int) (e:Ent),vs=[.ref bk,.str k,.int n]/\BookAt C H bk de dp B/\aM B.es n=some e/\B.es.length<1000/\
 ∀ H',Frm bk de dp H H'->BookAt C H' bk de dp (if k = "out" then ⟨cN B.es n (e.1,e.2.1+1,e.2.2),B.up,B.parts⟩ else if k = "new" then ⟨cN B.es n (e.1,0,e.2.2),B.up,B.parts⟩ else ⟨c8 B.es n,B.up,B.parts⟩)->Q .non H'
noncomputable def vN (n:Int) (e:Ent):PyData:=.tuple [.int n,.tuple (e.1.map .int),.int e.2.1]
def jM (C:Addr):Sp:=fun vs H Q _=>∃ (bk de dp:Addr) (B:Bk) (n:Int) (e:Ent),vs=[.ref bk,.int n]/\BookAt C H bk de dp B/\aM B.es n=some e/\∀ p H',aG H H'->Den H' (vN n e) (.ref p)->Q (.ref p) H'
theorem fW {k x:Str} (h:k=x):decide (V.str k=V.str x)=true:=decide_eq_true (by rw[h])
theorem fV {k x:Str} (h:¬ k=x):decide (V.str k=V.str x)=false:=decide_eq_false (fun z=>h (V.str.inj z))
section
variable {P:Program} {w:World} {K:PySem.W.Frag} {mg:Str->Option Value} {base:Heap} {aa8 aa1 aa5 aa2:Addr}
theorem oK:FnScope ["self","number","body","segment"] ["self","number","body","segment"] (aH l4):=‹0›
theorem yP {f:Addr} {fd:FuncData} (F:Fun K "enter_put" "Book.enter_put" l4 f fd) (T:(TxtK K mg aa8 aa1 aa5 aa2)):‹6› 1 f fd ["self","number","body","segment"] (hX aa2 aa5):=by
 refine F.okX oK (fun vs H Q E h=>?_) (fun cdv A outer s H vs Q E hr h=>?_)
 ·obtain⟨bk,de,dp,b,B,n,seg,body,rfl,_⟩:=h
  rfl
 ·obtain⟨bk,de,dp,b,B,n,seg,body,rfl,hB,hb,hl,q,qe⟩:=h
  refine⟨_,@aA _ _ _ _ _ (@bG _ _ _ _ _ _ _ _ (@aZ _ _ _ _ _ _ _ _ CN ‹17› ‹26› (bK _)) ‹30› (@aR _)) (@aA _ _ _ _ _ (@i5 _ _ _ _ _ _ _ _ _ (hu1 hr.units) ‹26› ‹17› (@cB _ _ _ _ _ (@aD _ _ _ _ _ _ ‹20› (@aP _ _ _ _ _ _ _ ‹18› (@aD _ _ _ _ _ _ ‹21› (@aB _))))) (by rfl)) (@aE _ _ _ (@cQ _ _ _ _ _ _ _ _ ‹16› (@bJ _ _ _ _ _ _ _ _ eZ ‹17› ‹18›) (by rfl)))),?_⟩
  obtain⟨dx,h1⟩:=hB.self
  refine⟨_,rfl,_,rfl,bk,_,dx,_,_,rfl,h1,T.cl,T.ab5,rfl,_,_,rfl,rfl,_,rfl,?_⟩
  show if decide (n<B.up)=true then _ else _
  unfold oU at q qe
  by_cases hn:n<B.up
  ·rw[if_pos (decide_eq_true hn)]
   rw[if_pos hn]at qe
   exact⟨(by show 1<=sizeLine; decide),qe rfl H (Frm.refl _ _ _ _)⟩
  rw[if_neg (by rw[decide_eq_true_eq]; exact hn)]
  rw[if_neg hn]at q
  refine cH rfl ?_
  refine⟨_,rfl,_,rfl,(by show 3<=sizeLine; decide),fun t ht=>?_⟩
  have S1:=aI (o:=.tup [.ref b,.int 0,.int seg]) ht
  generalize eH1:upd H t (.tup [.ref b,.int 0,.int seg])=H1 at S1 ⊢
  have g1:H1 t=some (.tup [.ref b,.int 0,.int seg]):=by rw[<- eH1]; exact aC
  have hB1:=hB.same S1
  obtain⟨kvs,h2,h3⟩:=hB1.ent
  have he:lM H1 (.ref t) (body,0,seg):=⟨t,b,rfl,g1,S1 _ _ hb⟩
  have hkl:kvs.length<sizeLine:=by rw[h3.len]; exact lt_trans hl (by decide)
  refine⟨_,rfl,bk,_,dx,_,_,rfl,S1 _ _ h1,T.cl,T.ab7,rfl,_,rfl,de,_,rfl,rP.k (k:=Sum.inl n) h2 hkl,?_⟩
  have hB2:=u7 hB1 (h3.put (n:=n) he)
  have F2:Frm bk de dp H1 (upd H1 de (.dK (iB kvs (Sum.inl n) (.ref t)))):=uR
  generalize upd H1 de (.dK (iB kvs (Sum.inl n) (.ref t)))=H2 at hB2 F2 ⊢
  obtain⟨dx2,h12⟩:=hB2.self
  obtain⟨ps2,h42,h52⟩:=hB2.par
  refine⟨_,rfl,_,_,rfl,rfl,_,rfl,bk,_,dx2,_,rfl,h12,T.cl,T.ab5,(by show 3<1000; decide),?_⟩
  exact q _ rfl _ (((aG.frm S1).trans F2 (.inl rfl)).trans yY (.inl rfl)) (sA hB2 (n+1) h42 h52)
theorem gU:FnScope ["self","kind","number","entry"] ["self","kind","number"] (aH tJ):=‹0›
theorem DG {f:Addr} {fd:FuncData} (F:Fun K "change_entry" "Book.change_entry" tJ f fd) (T:(TxtK K mg aa8 aa1 aa5 aa2)):‹6› 1 f fd ["self","kind","number"] (pJ aa2):=by
 refine F.okX gU (fun vs H Q E h=>?_) (fun cdv A outer s H vs Q E hr h=>?_)
 ·obtain⟨bk,de,dp,B,k,n,e,rfl,_⟩:=h
  rfl
 ·obtain⟨bk,de,dp,B,k,n,e,rfl,hB,he,hl,q⟩:=h
  refine⟨_,@aA _ _ _ _ _ (@aW _ _ (3) _ _ _ _ gU.nd (by rfl) (by first | exact Or.inl (by rfl) | exact Or.inr (by rfl)) (@i6 _ _ _ _ _ _ (hu1 hr.units) ‹26› ‹20› (fun _ _=>rfl)) ⋯ ⋯) (@aE _ _ _ (@bG _ _ _ _ _ _ _ _ (@aZ _ _ _ _ _ _ _ _ iQ ‹17› (@cW _ _ _ _) (bK _)) (@aE _ _ _ (@i5 _ _ _ _ _ _ _ _ _ (hu1 hr.units) ‹26› ‹20› (@cB _ _ _ _ _ (@aN _ _ _ _ _ _ _ (@cX _ _ _ _ _ _ _ (cJ K) ‹21› ‹18› (fun _ _ => rfl)) (@cG _ _ _ _ _ _ _ _ (@bJ _ _ _ _ _ _ _ _ eZ (@cX _ _ _ _ _ _ _ (cJ K) ‹21› ‹18› (fun _ _ => rfl)) ‹18›) (@aN _ _ _ _ _ _ _ (@cX _ _ _ _ _ _ _ (cJ K) ‹21› ‹18› (fun _ _ => rfl)) (@aB _))))) (by rfl))) (@aE _ _ _ (@bG _ _ _ _ _ _ _ _ (@aZ _ _ _ _ _ _ _ _ iQ ‹17› (@cW _ _ _ _) (bK _)) (@aE _ _ _ (@i5 _ _ _ _ _ _ _ _ _ (hu1 hr.units) ‹26› ‹20› (@cB _ _ _ _ _ (@aN _ _ _ _ _ _ _ (@cX _ _ _ _ _ _ _ (cJ K) ‹21› ‹18› (fun _ _ => rfl)) (@aP _ _ _ _ _ _ _ ‹18› (@aN _ _ _ _ _ _ _ (@cX _ _ _ _ _ _ _ (cJ K) ‹21› ‹18› (fun _ _ => rfl)) (@aB _))))) (by rfl))) (@aE _ _ _ (aT (nT K PySem.F.plainAttrs_dict PySem.F.slot_dict_pop PySem.F.type_dict_pop yS (dH (pv 0) (by rfl)) (aD (pv 2) aB)))))))),?_⟩
  obtain⟨dx,h1⟩:=hB.self
  obtain⟨kvs,h2,h3⟩:=hB.ent
  have hv:=h3.val (n:=n)
  rw[he]at hv
  obtain⟨v,hv1,t,b,rfl,gt,gb⟩:=hv
  have sq:SqT K H t [.ref b,.int e.2.1,.int e.2.2]:=SqT.of gt
  have dg:fN H de (.int n) (some (.ref t)):=by
   have:=fN.k (k:=Sum.inl n) h2
   rw[hv1]at this
   exact this
  have hkl:kvs.length<sizeLine:=by rw[h3.len]; exact lt_trans hl (by decide)
  refine⟨_,rfl,bk,_,dx,_,_,rfl,h1,T.cl,T.ab7,rfl,_,rfl,de,_,rfl,dg,?_⟩
  refine⟨_,rfl,rfl,_,rfl,?_⟩
  by_cases k1:k = "out"
  ·rw[if_pos k1]at q
   rw[fW k1]
   refine aX ?_
   refine⟨_,rfl,t,_,_,_,rfl,rfl,sq,bS (j:=0) rfl,_,rfl,t,_,_,_,rfl,rfl,sq,bS (j:=1) rfl,_,_,rfl,rfl,_,rfl,t,_,_,_,rfl,rfl,sq,bS (j:=2) rfl,(by show 3<=sizeLine; decide),fun u hu=>?_⟩
   have S1:=aI (o:=.tup [.ref b,.int (e.2.1+1),.int e.2.2]) hu
   generalize eH1:upd H u (.tup [.ref b,.int (e.2.1+1),.int e.2.2])=H1 at S1 ⊢
   have g1:H1 u=some (.tup [.ref b,.int (e.2.1+1),.int e.2.2]):=by rw[<- eH1]; exact aC
   have hE:lM H1 (.ref u) (e.1,e.2.1+1,e.2.2):=⟨u,b,rfl,g1,S1 _ _ gb⟩
   refine⟨_,rfl,bk,_,dx,_,_,rfl,S1 _ _ h1,T.cl,T.ab7,rfl,_,rfl,de,_,rfl,rP.k (k:=Sum.inl n) (S1 _ _ h2) hkl,?_⟩
   exact q _ ((aG.frm S1).trans uR (.inl rfl)) (u7 (hB.same S1) ((h3.t (aG.tup S1)).put hE))
  rw[if_neg k1]at q
  rw[fV k1]
  refine bE ⟨_,rfl,rfl,_,rfl,?_⟩
  by_cases k2:k = "new"
  ·rw[if_pos k2]at q
   rw[fW k2]
   refine aX ?_
   refine⟨_,rfl,t,_,_,_,rfl,rfl,sq,bS (j:=0) rfl,_,rfl,t,_,_,_,rfl,rfl,sq,bS (j:=2) rfl,(by show 3<=sizeLine; decide),fun u hu=>?_⟩
   have S1:=aI (o:=.tup [.ref b,.int 0,.int e.2.2]) hu
   generalize eH1:upd H u (.tup [.ref b,.int 0,.int e.2.2])=H1 at S1 ⊢
   have g1:H1 u=some (.tup [.ref b,.int 0,.int e.2.2]):=by rw[<- eH1]; exact aC
   have hE:lM H1 (.ref u) (e.1,0,e.2.2):=⟨u,b,rfl,g1,S1 _ _ gb⟩
   refine⟨_,rfl,bk,_,dx,_,_,rfl,S1 _ _ h1,T.cl,T.ab7,rfl,_,rfl,de,_,rfl,rP.k (k:=Sum.inl n) (S1 _ _ h2) hkl,?_⟩
   exact q _ ((aG.frm S1).trans uR (.inl rfl)) (u7 (hB.same S1) ((h3.t (aG.tup S1)).put hE))
  rw[if_neg k2]at q
  rw[fV k2]
  refine bE ?_
  refine⟨_,rfl,bk,_,dx,_,_,rfl,h1,T.cl,T.ab7,rfl,.inr (.inr (.inl ⟨rfl,.inl ⟨kvs,h2⟩⟩)),_,rfl,de,kvs,Sum.inl n,_,rfl,rfl,h2,hv1,?_⟩
  exact q _ uR (u7 hB h3.drop)
theorem lU:FnScope ["self","number","entry"] ["self","number"] (aH tH):=‹0›
theorem DE {f:Addr} {fd:FuncData} (F:Fun K "letter" "Book.letter" tH f fd) (T:(TxtK K mg aa8 aa1 aa5 aa2)):‹6› 1 f fd ["self","number"] (jM aa2):=by
 refine F.okX lU (fun vs H Q E h=>?_) (fun cdv A outer s H vs Q E hr h=>?_)
 ·obtain⟨bk,de,dp,B,n,e,rfl,_⟩:=h
  rfl
 ·obtain⟨bk,de,dp,B,n,e,rfl,hB,he,q⟩:=h
  refine⟨_,@aA _ _ _ _ _ (@aW _ _ (2) _ _ _ _ lU.nd (by rfl) (by first | exact Or.inl (by rfl) | exact Or.inr (by rfl)) (@i6 _ _ _ _ _ _ (hu1 hr.units) ‹26› ‹17› (fun _ _=>rfl)) ⋯ ⋯) (@aE _ _ _ (@bB _ _ _ _ (@cB _ _ _ _ _ (@aD _ _ _ _ _ _ ‹17› (@aN _ _ _ _ _ _ _ (@cX _ _ _ _ _ _ _ (cJ K) ‹20› ‹18› (fun _ _=>rfl)) (@aN _ _ _ _ _ _ _ (@cX _ _ _ _ _ _ _ (cJ K) ‹20› ‹18› (fun _ _=>rfl)) (@aB _))))))),?_⟩
  obtain⟨dx,h1⟩:=hB.self
  obtain⟨kvs,h2,h3⟩:=hB.ent
  have hv:=h3.val (n:=n)
  rw[he]at hv
  obtain⟨v,hv1,t,b,rfl,gt,gb⟩:=hv
  have sq:SqT K H t [.ref b,.int e.2.1,.int e.2.2]:=SqT.of gt
  have dg:fN H de (.int n) (some (.ref t)):=by
   have:=fN.k (k:=Sum.inl n) h2
   rw[hv1]at this
   exact this
  refine⟨_,rfl,bk,_,dx,_,_,rfl,h1,T.cl,T.ab7,rfl,_,rfl,de,_,rfl,dg,?_⟩
  refine⟨_,rfl,_,rfl,t,_,_,_,rfl,rfl,sq,bS (j:=0) rfl,_,rfl,t,_,_,_,rfl,rfl,sq,bS (j:=1) rfl,(by show 3<=sizeLine; decide),fun p hp=>?_⟩
  have S1:=aI (o:=.tup [.int n,.ref b,.int e.2.1]) hp
  refine q p _ S1 ?_
  unfold vN
  simp only[Den,aV]
  exact⟨p,_,rfl,aC,_,_,rfl,rfl,_,_,rfl,⟨b,_,rfl,S1 _ _ gb,b8.mpr rfl⟩,_,_,rfl,rfl,rfl⟩
end
noncomputable def fR (es:List (Int × Ent)) (n:Int):PyData:=vN n ((aM es n).getD ([],0,0))
def kN (C:Addr):Sp:=fun vs H Q _=>∃ (bk de dp:Addr) (B:Bk),vs=[.ref bk]/\BookAt C H bk de dp B/\B.es.length<500/\
 ∀ ms,List.Perm ms (B.es.map (·.1))->ms.Pairwise (· <= ·)->∀ p H',aG H H'->H p=none->Den H' (.list (ms.map (fR B.es))) (.ref p)->Q (.ref p) H'
def i9 (C aa5:Addr):Sp:=fun vs H Q E=>∃ (bk de dp:Addr) (B:Bk) (n m seg:Int),vs=[.ref bk,.int n,.int m,.int seg]/\BookAt C H bk de dp B/\0<=n/\n<=999999/\0<=m/\m<=9/\B.es.length+B.parts.length<900/\
 (∀ B',Af B n m seg=some B'->∀ dq H',Frm bk de dp H H'->H dq=none->BookAt C H' bk de dq B'->Q .non H')/\(Af B n m seg=none->∀ H',Frm bk de dp H H'->E (.ref aa5) none H')
theorem eO {es:List (Int × Ent)} {n:Int} (h:n∈es.map (·.1)):∃ e,aM es n=some e:=by
 induction es with
 | nil=>simp at h
 | cons p es ih=>
  by_cases e:p.1=n
  ·exact⟨p.2,by simp [aM,e]⟩
  ·have:n∈es.map (·.1):=by
    rw[map_cons,mem_cons]at h
    rcases h with h | h
    ·exact absurd h.symm e
    ·exact h
   obtain⟨x,hx⟩:=ih this
   exact⟨x,by simpa [aM,e] using hx⟩
theorem CQ (n:Int) (e:Ent):lN (vN n e)=true:=by
 have tl:∀ l:List Int,dE (l.map PyData.int)=true:=by
  intro l
  induction l with
  | nil=>rfl
  | cons x l ih=>exact ih
 unfold vN
 simp only[lN,dE,Bool.true_and,Bool.and_true]
 exact tl _
theorem y8:∀ {H:Hp} {ds:List PyData} {ys:List V},ys.length=ds.length->(∀ (i:Nat) (y:V),ys[i]? = some y->∃ d,ds[i]? = some d/\Den H d y)->aV H ds ys
 | H,[],[],_,_=>by simp only[aV]
 | H,d::ds,y::ys,hl,h=>by
  simp only[aV]
  obtain⟨d',e,h1⟩:=h 0 y rfl
  cases (Option.some.inj e:d=d')
  exact⟨y,ys,rfl,h1,y8 (by simpa using hl) fun i z hz=>h (i+1) z hz⟩
 | H,[],y::ys,hl,_=>by simp at hl
 | H,d::ds,[],hl,_=>by simp at hl
theorem Db (ns ms:List Int):PyData.eqv (.list (ns.map .int)) (.list (ms.map .int))=decide (ns=ms):=by
 show PyData.eqvAll _ _=_
 exact ked_eqvAll ns ms
theorem oH (ns:List Int):SeqAt.shaped (.list (ns.map .int))=true:=by
 unfold SeqAt.shaped
 have h1:PyData.canLay0 (.list (ns.map .int))=true:=uI ns
 have h2:PyData.depth (.list (ns.map .int))=1:=by
  show PyData.depthAll (ns.map .int)+1=1
  rw[depth_ints]
 rw[h1,h2]
 rfl
theorem tP (seg:Int):∀ {ps:List (Int × List Int)} {B B':Bk},puts seg B ps=some B'->B'.parts=B.parts
 | [],B,B',h=>by
  cases (Option.some.inj h:B=B')
  rfl
 | p::ps,B,B',h=>by
  unfold puts at h
  cases e:oU B p.1 p.2 seg with
  | none=>rw[e]at h; cases h
  | some B1=>
   rw[e]at h
   have:=tP seg h
   rw[this]
   unfold oU at e
   split at e
   ·cases e
   ·cases (Option.some.inj e)
    rfl
section
variable {P:Program} {w:World} {K:PySem.W.Frag} {mg:Str->Option Value} {base:Heap} {aa8 aa1 aa5 aa2:Addr}
theorem rH:FnScope ["self"] ["self"] (aH qA):=‹0›
theorem BW {f:Addr} {fd:FuncData} (F:Fun K "letters" "Book.letters" qA f fd) (T:(TxtK K mg aa8 aa1 aa5 aa2)) (br0:‹8› aa2 "letter" 1 ["self","number"] (jM aa2)):‹6› 2 f fd ["self"] (kN aa2):=by
 refine F.okX rH (fun vs H Q E h=>?_) (fun cdv A outer s H vs Q E hr h=>?_)
 ·obtain⟨bk,de,dp,B,rfl,_⟩:=h
  rfl
 ·obtain⟨bk,de,dp,B,rfl,hB,hl,q⟩:=h
  refine⟨_,@aE _ _ _ (@bB _ _ _ _ (@dI _ _ _ _ _ _ _ _ _ _ _ ["number"] [("self",0)] (by rfl) (@bU _ K _ _ _ (@aY _ _ _ _ _ _ _ _ _ (@lJ _ (by rfl)) (by rfl) T.ac9 gJ (@cT _ _ _ _ _ _ _ ‹26› (@aB _)) ⋯ ⋯ ⋯ ⋯) ⋯) (fun C s2 H2 ex=>(@bI _ _ (0) _ (show List.Nodup (["number","self"]:List Str) by decide +kernel) (by rfl) (Or.inl (by rfl)) ⋯)) (fun C s2 H2 ex => (@Fz _)) (fun C s2 H2 ex=>(@cF _ _ _ _ _ _ _ _ _ _ _ _ _ _ _ br0 T.cl ‹11› a8 ‹17› (@aD _ _ _ _ _ _ ‹16› (@aB _)) ⋯ ⋯ ⋯)) ⋯ ⋯ ⋯ ⋯)),?_⟩
  obtain⟨dx,h1⟩:=hB.self
  obtain⟨kvs,h2,h3⟩:=hB.ent
  refine⟨_,rfl,bk,_,dx,_,_,rfl,h1,T.cl,T.ab7,rfl,de,kvs,_,rfl,h2,h3.keys,by rw[length_map]; omega,fun p ms perm pw hp=>?_⟩
  have S1:=aI (o:=.lst (ms.map .int)) hp
  generalize eH1:upd H p (.lst (ms.map .int))=H1 at S1 ⊢
  have g1:H1 p=some (.lst (ms.map .int)):=by rw[<- eH1]; exact aC
  have lm:(ms.map V.int).length=ms.length:=length_map _
  have pl:=perm.length_eq
  rw[length_map]at pl
  refine⟨p,rfl,⟨_,SqL.of g1⟩,?_⟩
  refine fF (bT (K:=K) (SqL.of g1)) ?zl (fun i y H'=>∃ n,ms[i]? = some n/\Den H' (fR B.es n) y) (fun i y H1 H2 s h=>by obtain⟨n,e,h⟩:=h; exact⟨n,e,h.n s (CQ _ _)⟩) (fun σ=>∃ z,σ = [z,some (.ref bk)]) ?z0 ?_ ?_
  case zl=>
   rw[lm,pl]
   exact le_of_lt (lt_trans hl (by decide))
  case z0=>exact⟨none,rfl⟩
  ·intro i x σc H3 hi hσ s3 hx Q' hQ'
   obtain⟨z,rfl⟩:=hσ
   rw[getElem?_map]at hx
   cases e:ms[i]? with
   | none=>rw[e]at hx; cases hx
   | some n=>
    rw[e]at hx
    cases hx
    have hin:n∈B.es.map (·.1):=perm.mem_iff.mp (mem_of_getElem? e)
    obtain⟨en,hen⟩:=eO hin
    have S13:aG H H3:=S1.trans s3
    refine⟨_,rfl,bk,dx,_,rfl,S13 _ _ h1,rfl,_,rfl,bk,de,dp,B,n,en,rfl,hB.same S13,hen,fun p4 H4 S4 d4=>?_⟩
    refine hQ' _ _ _ ⟨_,rfl⟩ S4 ⟨n,e,?_⟩
    unfold fR
    rw[hen]
    exact d4
  ·intro D ys H' hD s' hD' hlen hR
   refine q ms perm pw D H' (S1.trans s') (S1.free hD) ?_
   simp only[Den]
   refine⟨D,ys,rfl,hD',y8 (by rw[length_map,hlen,lm]) fun i y e=>?_⟩
   obtain⟨n,e1,e2⟩:=hR i y e
   exact⟨_,by rw[getElem?_map,e1]; rfl,e2⟩
theorem fI:FnScope ["self","number","many","segment","parts","part"] ["self","number","many","segment"] (aH kS):=‹0›
theorem vH {f:Addr} {fd:FuncData} (F:Fun K "enter_deal" "Book.enter_deal" kS f fd) (T:(TxtK K mg aa8 aa1 aa5 aa2)) (ak0:‹8› aa2 "enter_put" 1 ["self","number","body","segment"] (hX aa2 aa5)):‹6› 2 f fd ["self","number","many","segment"] (i9 aa2 aa5):=by
 refine F.okX fI (fun vs H Q E h=>?_) (fun cdv A outer s H vs Q E hr h=>?_)
 ·obtain⟨bk,de,dp,B,n,m,seg,rfl,_⟩:=h
  rfl
 ·obtain⟨bk,de,dp,B,n,m,seg,rfl,hB,n0,n9,m0,m9,hl,q,qe⟩:=h
  refine⟨_,@aA _ _ _ _ _ (@aW _ _ (4) _ _ _ _ fI.nd (by rfl) (by first | exact Or.inl (by rfl) | exact Or.inr (by rfl)) ‹26› ⋯ ⋯) (@aA _ _ _ _ _ (@cQ _ _ _ _ _ _ _ _ ‹16› (@jF _ _ _ _ (@aB _)) (by rfl)) (@aA _ _ _ _ _ (@bG _ _ _ _ _ _ _ _ (@aZ _ _ _ _ _ _ _ _ (yJ hr.units) (@dI _ _ _ _ _ _ _ _ _ _ _ ["part"] [] (by rfl) (@bU _ K _ _ _ (@pv _ 4 _ _ ⋯ ⋯ ⋯ ⋯) ⋯) (fun C s2 H2 ex=>(@bI _ _ (0) _ (show List.Nodup (["part"]:List Str) by decide +kernel) (by rfl) (Or.inl (by rfl)) ⋯)) (fun C s2 H2 ex => (@Fz _)) (fun C s2 H2 ex=>‹29›) ⋯ ⋯ ⋯ ⋯) (@BL _ _ _ _ _ _ _ _ (by rfl) (by rfl) T.ar8 (by rfl) T.ah7 (@aD _ _ _ _ _ _ ‹17› (@cG _ _ _ _ _ _ _ _ (@bJ _ _ _ _ _ _ _ _ eZ ‹17› ‹20›) (@aB _))) ⋯ ⋯ ⋯) (bK _)) ‹30› (@aR _)) (@aE _ _ _ (@fQ _ _ _ _ _ _ _ _ (m6 eM) (by rfl) (@bU _ K _ _ _ (@pv _ 4 _ _ ⋯ ⋯ ⋯ ⋯) ⋯) (@bI _ _ (5) _ fI.nd (by rfl) (by first | exact Or.inl (by rfl) | exact Or.inr (by rfl)) ⋯) (@aE _ _ _ (aT (cF ak0 T.cl ‹11› bO (pv 0) (aN (cX (cJ K) (pv 5) jG (fun _ _=>rfl)) (aN (cX (cJ K) (pv 5) jG (fun _ _=>rfl)) (aD (pv 3) aB)))))) ⋯)))),?_⟩
  obtain⟨dx,h1⟩:=hB.self
  obtain⟨ps,h4,h5⟩:=hB.par
  obtain⟨ne1,ne2,ne3⟩:=hB.ne
  refine⟨_,rfl,bk,_,dx,_,_,rfl,h1,T.cl,T.ak8,rfl,?_⟩
  refine⟨(by show 0<=sizeLine; decide),fun dq hdq=>?_⟩
  have S1:=aI (o:=.lst []) hdq
  generalize eH1:upd H dq (.lst [])=H1 at S1 ⊢
  have g1:H1 dq=some (.lst []):=by rw[<- eH1]; exact aC
  refine⟨_,rfl,bk,_,dx,_,rfl,S1 _ _ h1,T.cl,T.ak8,(by show 3<1000; decide),?_⟩
  have hB2:=sA (hB.same S1) (dx:=dx) B.up (parts:=[]) g1 (by simp only[fJ,map_nil,aV])
  have F2:Frm bk de dp H (upd H1 bk (.ins aa2 dx (bkF de dq B.up))):=(aG.frm S1).trans yY (.inl rfl)
  have g2:upd H1 bk (.ins aa2 dx (bkF de dq B.up)) dp=some (.lst ps):=by rw[aF (Ne.symm ne2)]; exact S1 _ _ h4
  have T2:gA H (upd H1 bk (.ins aa2 dx (bkF de dq B.up))):=hB.tup F2
  rw[BJ]
  generalize upd H1 bk (.ins aa2 dx (bkF de dq B.up))=H2 at hB2 F2 g2 T2 ⊢
  have d2:aV H2 (fJ B.parts) ps:=iR T2 (iF _) h5
  have lp:ps.length=B.parts.length:=by rw[h5.length]; unfold fJ; rw[length_map]
  have hdq0:dq≠dp:=fun z=>by rw[z,h4]at hdq; cases hdq
  refine⟨_,rfl,dp,rfl,⟨_,SqL.of g2⟩,?_⟩
  refine fF (bT (K:=K) (SqL.of g2)) ?zl (fun i y _=>∃ p,B.parts[i]? = some p/\y = .int p.1) (fun i y H1 H2 s h=>h) (fun σ=>σ.length=1) ?z0 ?_ ?_
  case zl=>
   rw[lp]
   exact le_of_lt (lt_trans (show _<900 by omega) (by decide))
  case z0=>rfl
  ·intro i x σc H3 hi hσ s3 hx Q' hQ'
   obtain⟨d,hd,dn⟩:=d2.get hx
   unfold fJ at hd
   rw[getElem?_map]at hd
   cases e:B.parts[i]? with
   | none=>rw[e]at hd; cases hd
   | some pr=>
    rw[e]at hd
    cases (Option.some.inj hd:f9 "part" pr.1 pr.2=d)
    have dn':=dn.same s3
    unfold f9 at dn'
    simp only[Den,aV]at dn'
    obtain⟨t,xt,rfl,gt,y0,r0,f0,f1,y1,r1,f2,f3,y2,r2,f4,⟨pb,yb,f5,gb,db⟩,f6⟩:=dn'
    subst f6 f5 f4 f3 f2 f1 f0
    match σc,hσ with
    | [z],_=>
     refine⟨_,rfl,t,_,_,_,rfl,rfl,SqT.of gt,bS (j:=1) rfl,?_⟩
     exact hQ' _ _ _ rfl (aG.refl _) ⟨pr,e,rfl⟩
  intro D ys H3 hD S3 g3 hlen hR
  have ey:ys=(B.parts.map (·.1)).map V.int:=by
   apply ext_getElem?
   intro i
   cases e:ys[i]? with
   | none=>
    have:ys.length<=i:=List.getElem?_eq_none_iff.mp e
    rw[getElem?_eq_none (by rw[length_map,length_map]; omega)]
   | some y=>
    obtain⟨p,e1,e2⟩:=hR i y e
    rw[getElem?_map,getElem?_map,e1,e2]
    rfl
  have hmz:(n+m - n).toNat=m.toNat:=by omega
  refine⟨_,rfl,_,rfl,_,rfl,_,_,rfl,rfl,n,n+m,rfl,⟨by omega,by omega,by omega,by omega⟩,le_trans (show _<=9 by omega) (by decide),fun p4 hp4=>?_⟩
  rw[hmz]
  have er:((List.range m.toNat).map fun(k:Nat)=>V.int (n+(k:Int)))=((List.range m.toNat).map fun(k:Nat)=>n+(k:Int)).map V.int:=by rw[map_map]; rfl
  rw[er]
  have S4:=aI (o:=.lst (((List.range m.toNat).map fun(k:Nat)=>n+(k:Int)).map V.int)) hp4
  generalize eH4:upd H3 p4 (.lst (((List.range m.toNat).map fun(k:Nat)=>n+(k:Int)).map V.int))=H4 at S4 ⊢
  have g4:H4 p4=some (.lst (((List.range m.toNat).map fun(k:Nat)=>n+(k:Int)).map V.int)):=by rw[<- eH4]; exact aC
  have dA:Den H4 (.list ((B.parts.map (·.1)).map .int)) (.ref D):=by
   simp only[Den]
   exact⟨D,ys,rfl,S4 _ _ g3,by rw[ey]; exact b8.mpr rfl⟩
  have dB:Den H4 (.list (((List.range m.toNat).map fun(k:Nat)=>n+(k:Int)).map .int)) (.ref p4):=by
   simp only[Den]
   exact⟨p4,_,rfl,g4,b8.mpr rfl⟩
  refine⟨_,_,dA,dB,oH _,oH _,_,rfl,?_⟩
  rw[Db]
  have F4:Frm bk de dp H H4:=F2.trans (aG.frm (S3.trans S4)) (.inl rfl)
  unfold Af at q qe
  by_cases hc:B.parts.map (·.1)=(List.range m.toNat).map fun(k:Nat)=>n+(k:Int)
  case neg=>
   rw[if_neg hc]at qe
   rw[decide_eq_false hc]
   exact aX ⟨(by show 1<=sizeLine; decide),qe rfl H4 F4⟩
  rw[if_pos hc]at q qe
  rw[decide_eq_true hc]
  refine bE ?_
  refine cH rfl ?_
  have hB4:=hB2.same (S3.trans S4)
  have gd4:H4 dp=some (.lst ps):=S4 _ _ (S3 _ _ g2)
  have d4:aV H4 (fJ B.parts) ps:=(d2.same S3).same S4
  refine⟨_,rfl,dp,rfl,⟨_,SqL.of gd4⟩,?_⟩
  have sq0:SqL K (fun a=>if a=dp then some (.lst ps) else none) dp ps:=SqL.of (if_pos rfl)
  refine kD (H0:=fun a=>if a=dp then some (.lst ps) else none) (bT (K:=K) sq0) (fun i σ H'=>H' dp=some (.lst ps)/\gA H4 H'/\Frm bk de dp H H'/\i<=B.parts.length/\∃ Bi z5,BookAt aa2 H' bk de dq Bi/\Bi.es.length<=B.es.length+i/\puts seg ⟨B.es,B.up,[]⟩ B.parts=puts seg Bi (B.parts.drop i)/\σ = [some (.ref bk),some (.int n),some (.int m),some (.int seg),some (.ref dp),z5]) ?i0 ?kp ?_ ?_
  case i0=>exact⟨gd4,fun _ _ e=>e,F4,zero_le _,_,none,hB4,le_refl _,rfl,rfl⟩
  case kp=>
   intro i σ H' h b o e
   by_cases z:b=dp
   ·subst z
    have e:some (HO.lst ps)=some o:=by simpa using e
    rw[<- e]
    exact h.1
   ·have e:none=some o:=by simpa [z] using e
    cases e
  ·rintro i x σ H5 H6 hi ⟨gd5,t5,f5,hiL,Bi,z5,hBi,hle,hpu,rfl⟩ s6 hx
   obtain⟨d,hd,dn⟩:=d4.get hx
   unfold fJ at hd
   rw[getElem?_map]at hd
   cases e:B.parts[i]? with
   | none=>rw[e]at hd; cases hd
   | some pr=>
    rw[e]at hd
    cases (Option.some.inj hd:f9 "part" pr.1 pr.2=d)
    have dn':=Ce (t5.trans (aG.tup s6)) (mR _ _ _) dn
    unfold f9 at dn'
    simp only[Den,aV]at dn'
    obtain⟨t,xt,rfl,gt,y0,r0,f0,f1,y1,r1,f2,f3,y2,r2,f4,⟨pb,yb,f5',gb,db⟩,f6⟩:=dn'
    have eb:=b8.mp db
    subst eb f6 f5' f4 f3 f2 f1 f0
    have iL:i<B.parts.length:=(List.getElem?_eq_some_iff.mp e).1
    have ed:B.parts.drop i=pr::B.parts.drop (i+1):=by
     rw[drop_eq_getElem_cons iL]
     have:=(List.getElem?_eq_some_iff.mp e).2
     rw[this]
    rw[ed]at hpu
    have hB6:=hBi.same s6
    obtain⟨dx6,h16⟩:=hB6.self
    refine⟨_,rfl,bk,dx6,_,rfl,h16,rfl,_,rfl,t,_,_,_,rfl,rfl,SqT.of gt,bS (j:=1) rfl,_,rfl,t,_,_,_,rfl,rfl,SqT.of gt,bS (j:=2) rfl,_,rfl,bk,de,dq,pb,Bi,pr.1,seg,pr.2,rfl,hB6,gb,by omega,fun B' hB' H7 f7 hB7=>?_,fun hn H7 f7=>?_⟩
    ·have hdq':dq=dp\/H dq=none:=.inr hdq
     have f67:Frm bk de dp H H7:=(f5.trans (aG.frm (dp:=dp) s6) (.inl rfl)).trans f7 hdq'
     refine⟨f7 _ _ (s6 _ _ gd5) (Ne.symm ne2) (fun z=>ne3 z.symm) (Ne.symm hdq0),(t5.trans (aG.tup s6)).trans (hB6.tup f7),f67,iL,B',_,hB7,?_,?_,rfl⟩
     ·unfold oU at hB'
      split at hB'
      ·cases hB'
      ·cases (Option.some.inj hB')
       have:=jX Bi.es pr.1 (pr.2,0,seg)
       show (cN Bi.es pr.1 (pr.2,0,seg)).length<=_
       omega
     ·rw[hpu]
      show (match oU Bi pr.1 pr.2 seg with | none=>none | some B'=>puts seg B' (B.parts.drop (i+1)))=_
      rw[hB']
    ·refine qe ?_ H7 ((f5.trans (aG.frm (dp:=dp) s6) (.inl rfl)).trans f7 (.inr hdq))
     rw[hpu]
     show (match oU Bi pr.1 pr.2 seg with | none=>none | some B'=>puts seg B' (B.parts.drop (i+1)))=none
     rw[hn]
  ·rintro σ H5 ⟨gd5,t5,f5,hiL,Bi,z5,hBi,hle,hpu,rfl⟩
   rw[lp,drop_of_length_le (le_refl _)]at hpu
   exact q Bi hpu dq H5 f5 hdq hBi
end
def oE (C aa5:Addr):Sp:=fun vs H Q E=>∃ (bk de dp pr:Addr) (B:Bk) (k:Str) (n seg:Int) (body:List Int),vs=[.ref bk,.ref pr,.int seg]/\BookAt C H bk de dp B/\Den H (f9 k n body) (.ref pr)/\aS (f9 k n body)=true/\B.es.length+B.parts.length<900/\
 (∀ B',dJ B k n body seg=some B'->∀ dq H',Frm bk de dp H H'->(dq=dp\/H dq=none)->BookAt C H' bk de dq B'->Q .non H')/\(dJ B k n body seg=none->∀ H',Frm bk de dp H H'->E (.ref aa5) none H')
def xR (C:Addr):Sp:=fun vs H Q _=>∃ (bk dx:Addr),vs=[.ref bk]/\H bk=some (.ins C dx [])/\∀ de dp H',(∀ b o,H b=some o->b≠bk->H' b=some o)->H de=none->H dp=none->BookAt C H' bk de dp ⟨[],0,[]⟩->Q .non H'
theorem wC {k:Str} {n:Int} {body:List Int} (h:aS (f9 k n body)=true):k∈kinds/\0<=n/\n<=999999/\(k = "deal"->1<=body.length/\1<=body.getD 0 0/\body.getD 0 0<=9)/\(k = "carried"->1<=body.length)/\body.length<=61:=by
 unfold f9 at h
 simp only[aS,and_eq_true]at h
 obtain⟨h1,h2,h3,h4⟩:=h
 rw[dP]at h4
 simp only[bN,and_eq_true,decide_eq_true_eq]at h2
 refine⟨by simpa using h1,h2.1,h2.2,?_,?_,?_⟩
 ·rintro rfl
  unfold fU at h4
  rw[if_neg (by decide),if_neg (by decide),if_pos rfl]at h4
  simp only[and_eq_true,decide_eq_true_eq]at h4
  obtain⟨⟨l1,l2⟩,l3⟩:=h4
  match body,l1,l2,l3 with
  | [x],_,l2,l3=>exact⟨le_refl _,l2,l3⟩
 ·rintro rfl
  unfold fU at h4
  rw[if_neg (by decide),if_pos rfl]at h4
  simp only[and_eq_true,decide_eq_true_eq]at h4
  exact h4.1.1
 ·unfold fU at h4
  split at h4
  ·have:=of_decide_eq_true h4
   omega
  ·split at h4
   ·simp only[and_eq_true,decide_eq_true_eq]at h4
    omega
   ·split at h4
    ·simp only[and_eq_true,decide_eq_true_eq]at h4
     omega
    ·have:=of_decide_eq_true h4
     omega
theorem Df {xs:List V} (h:1<=xs.length):iU xs (some 1) none=xs.drop 1:=by
 unfold iU
 have e:HT.sIx xs.length 0 (some 1)=1:=(HT.iZ xs.length 0 1).trans (min_eq_left h)
 rw[e,HT.tK,List.take_of_length_le (by rw[length_drop]; omega)]
section
variable {P:Program} {w:World} {K:PySem.W.Frag} {mg:Str->Option Value} {base:Heap} {aa8 aa1 aa5 aa2:Addr}
theorem pQ:FnScope ["self"] ["self"] (aH BA):=‹0›
theorem GG {f:Addr} {fd:FuncData} (F:Fun K "__init__" "Book.__init__" BA f fd) (T:(TxtK K mg aa8 aa1 aa5 aa2)):‹6› 1 f fd ["self"] (xR aa2):=by
 refine F.okX pQ (fun vs H Q E h=>?_) (fun cdv A outer s H vs Q E hr h=>?_)
 ·obtain⟨bk,dx,rfl,_⟩:=h
  rfl
 ·obtain⟨bk,dx,rfl,h1,q⟩:=h
  refine⟨_,@aA _ _ _ _ _ (@cQ _ _ _ _ _ _ _ _ ‹16› (@oW _ _) (by rfl)) (@aA _ _ _ _ _ (@cQ _ _ _ _ _ _ _ _ ‹16› ‹18› (by rfl)) (@aE _ _ _ (@cQ _ _ _ _ _ _ _ _ ‹16› (@jF _ _ _ _ (@aB _)) (by rfl)))),?_⟩
  refine fun de hde=>?_
  have nde:bk≠de:=fun z=>by rw[z,hde]at h1; cases h1
  refine⟨_,rfl,bk,_,dx,_,rfl,by rw[aF nde]; exact h1,T.cl,T.ab7,(by show 0<1000; decide),?_⟩
  refine⟨_,rfl,bk,_,dx,_,rfl,aC,T.cl,T.ab5,(by show 1<1000; decide),?_⟩
  refine⟨(by show 0<=sizeLine; decide),fun dp hdp=>?_⟩
  generalize eH1:upd (upd (upd H de (.dK [])) bk (.ins aa2 dx (gX "entries" (.ref de) []))) bk (.ins aa2 dx (gX "upcoming" (.int 0) (gX "entries" (.ref de) [])))=H1 at hdp ⊢
  have k1:H1 bk=some (.ins aa2 dx (gX "upcoming" (.int 0) (gX "entries" (.ref de) []))):=by rw[<- eH1]; exact aC
  have k2:H1 de=some (.dK []):=by rw[<- eH1,aF (Ne.symm nde),aF (Ne.symm nde)]; exact aC
  have k3:∀ b o,H b=some o->b≠bk->H1 b=some o:=fun b o e nb=>by
   rw[<- eH1,aF nb,aF nb,aF (fun z=>by rw[z,hde]at e; cases e)]
   exact e
  have ndp:bk≠dp:=fun z=>by rw[<- z,k1]at hdp; cases hdp
  have nd2:de≠dp:=fun z=>by rw[<- z,k2]at hdp; cases hdp
  have hdp0:H dp=none:=by
   cases e:H dp with
   | none=>rfl
   | some o=>rw[k3 dp o e (Ne.symm ndp)]at hdp; cases hdp
  refine⟨_,rfl,bk,_,dx,_,rfl,by rw[aF ndp]; exact k1,T.cl,T.ak8,(by show 2<1000; decide),?_⟩
  refine q de dp _ (fun b o e nb=>?_) hde hdp0 ⟨⟨dx,?_⟩,⟨[],?_,trivial⟩,⟨[],?_,by simp only[fJ,map_nil,aV]⟩⟩
  ·rw[aF nb,aF (fun z=>by rw[z,hdp0]at e; cases e)]
   exact k3 b o e nb
  ·rw[aC]
   rfl
  ·rw[aF (Ne.symm nde),aF nd2]
   exact k2
  ·rw[aF (Ne.symm ndp)]
   exact aC
theorem gN:FnScope ["self","row","segment","kind","number","body"] ["self","row","segment"] (aH yB):=‹0›
theorem Ep {f:Addr} {fd:FuncData} (F:Fun K "enter" "Book.enter" yB f fd) (T:(TxtK K mg aa8 aa1 aa5 aa2)) (ak0:‹8› aa2 "enter_put" 1 ["self","number","body","segment"] (hX aa2 aa5))
  (bc3:‹8› aa2 "enter_deal" 2 ["self","number","many","segment"] (i9 aa2 aa5)) (au4:‹8› aa2 "change_entry" 1 ["self","kind","number"] (pJ aa2)):‹6› 3 f fd ["self","row","segment"] (oE aa2 aa5):=by
 refine F.okX gN (fun vs H Q E h=>?_) (fun cdv A outer s H vs Q E hr h=>?_)
 ·obtain⟨bk,de,dp,pr,B,k,n,seg,body,rfl,_⟩:=h
  rfl
 ·obtain⟨bk,de,dp,pr,B,k,n,seg,body,rfl,hB,hd,hrow,hl,q,qe⟩:=h
  refine⟨_,@aA _ _ _ _ _ (@aW _ _ (3) _ _ _ _ gN.nd (by rfl) (by first | exact Or.inl (by rfl) | exact Or.inr (by rfl)) ‹28› ⋯ ⋯) (@aA _ _ _ _ _ (@aW _ _ (4) _ _ _ _ gN.nd (by rfl) (by first | exact Or.inl (by rfl) | exact Or.inr (by rfl)) ‹28› ⋯ ⋯) (@aA _ _ _ _ _ (@aW _ _ (5) _ _ _ _ gN.nd (by rfl) (by first | exact Or.inl (by rfl) | exact Or.inr (by rfl)) ‹28› ⋯ ⋯) (@aE _ _ _ (@bG _ _ _ _ _ _ _ _ (@aZ _ _ _ _ _ _ _ _ iQ ‹21› (@cW _ _ _ _) (bK _)) (@aE _ _ _ (aT (nT K PySem.F.plainAttrs_list PySem.F.slot_list_append PySem.F.type_list_append kA (dH (pv 0) (by rfl)) (aD (pv 1) aB)))) (@aE _ _ _ (@bG _ _ _ _ _ _ _ _ (@aZ _ _ _ _ _ _ _ _ iQ ‹21› (@cW _ _ _ _) (bK _)) (@aE _ _ _ (aT (cF bc3 T.cl ‹11› bO (pv 0) (aD (pv 4) (aN (cX (cJ K) (pv 5) jG (fun _ _=>rfl)) (aD (pv 2) aB)))))) (@aE _ _ _ (@bG _ _ _ _ _ _ _ _ (@jY _ K _ _ ‹26› ⋯ ⋯) ‹30› (@aE _ _ _ (@bG _ _ _ _ _ _ _ _ (@aZ _ _ _ _ _ _ _ _ iQ ‹21› (@cW _ _ _ _) (bK _)) (@aE _ _ _ (aT (cF ak0 T.cl ‹11› bO (pv 0) (aD (pv 4) (aD (pv 5) (aD (pv 2) aB)))))) (@aE _ _ _ (@bG _ _ _ _ _ _ _ _ (@aZ _ _ _ _ _ _ _ _ iQ ‹21› (@cW _ _ _ _) (bK _)) (@aE _ _ _ (@cQ _ _ _ _ _ _ _ _ ‹16› (@aY _ _ _ _ _ _ _ _ _ (xE (by rfl)) (by rfl) T.bu4 FW (@cT _ _ _ _ _ _ _ ‹26› (@aD _ _ _ _ _ _ (@pv _ 4 _ _ ⋯ ⋯ ⋯ ⋯) (@aB _))) ⋯ ⋯ ⋯ ⋯) (by rfl))) (@aE _ _ _ (@bG _ _ _ _ _ _ _ _ (@aZ _ _ _ _ _ _ _ _ iQ ‹21› (@cW _ _ _ _) (bK _)) (@aA _ _ _ _ _ (@i5 _ _ _ _ _ _ _ _ _ (hu1 hr.units) ‹26› (@pv _ 4 _ _ ⋯ ⋯ ⋯ ⋯) (@cB _ _ _ _ _ (@aN _ _ _ _ _ _ _ (@eI _ _ _ _ _ _ _ _ _ _ (oG K) (@pv _ 5 _ _ ⋯ ⋯ ⋯ ⋯) (@fH _ _ _ ‹18›) (@gO _)) (@aN _ _ _ _ _ _ _ (@cX _ _ _ _ _ _ _ (cJ K) (@pv _ 5 _ _ ⋯ ⋯ ⋯ ⋯) ‹18› (fun _ _=>rfl)) (@aD _ _ _ _ _ _ ‹20› (@aB _))))) (by rfl)) (@aE _ _ _ (@cQ _ _ _ _ _ _ _ _ ‹16› (@aY _ _ _ _ _ _ _ _ _ (xE (by rfl)) (by rfl) T.bu4 FW (@cT _ _ _ _ _ _ _ ‹26› (@cG _ _ _ _ _ _ _ _ (@bJ _ _ _ _ _ _ _ _ eZ (@pv _ 4 _ _ ⋯ ⋯ ⋯ ⋯) ‹18›) (@aB _))) ⋯ ⋯ ⋯ ⋯) (by rfl)))) (@aE _ _ _ (@bG _ _ _ _ _ _ _ _ (@tR _ _ _ _ _ _ (@Eh _ _ _ _ _ (hu1 hr.units) (@pv _ 4 _ _ ⋯ ⋯ ⋯ ⋯) ‹26›) ⋯) (@aE _ _ _ (aT (cF au4 T.cl ‹11› a8 (pv 0) (aD (pv 3) (aD (pv 4) aB))))) (@aR _))))))))))))))))),?_⟩
  obtain⟨hk,n0,n9,hdeal,hcar,hbl⟩:=wC hrow
  obtain⟨dx,h1⟩:=hB.self
  obtain⟨kvs,h2,h3⟩:=hB.ent
  obtain⟨ps,h4,h5⟩:=hB.par
  have hd':=hd
  unfold f9 at hd'
  simp only[Den,aV]at hd'
  obtain⟨t,xt,et,gt,y0,r0,f0,f1,y1,r1,f2,f3,y2,r2,f4,⟨pb,yb,f5,gb,db⟩,f6⟩:=hd'
  have eb:=b8.mp db
  cases et
  subst eb f6 f5 f4 f3 f2 f1 f0
  have sq:SqT K H pr [.str k,.int n,.ref pb]:=SqT.of gt
  have sqb:SqT K H pb (body.map V.int):=SqT.of gb
  have lp:ps.length=B.parts.length:=by rw[h5.length]; unfold fJ; rw[length_map]
  have hkl:kvs.length<sizeLine:=by rw[h3.len]; exact lt_trans (show _<900 by omega) (by decide)
  refine⟨_,rfl,pr,_,_,_,rfl,rfl,sq,bS (j:=0) rfl,_,rfl,pr,_,_,_,rfl,rfl,sq,bS (j:=1) rfl,_,rfl,pr,_,_,_,rfl,rfl,sq,bS (j:=2) rfl,?_⟩
  unfold dJ at q qe
  refine⟨_,rfl,rfl,_,rfl,?_⟩
  by_cases k1:k = "part"
  ·rw[if_pos k1]at q
   rw[fW k1]
   refine aX ?_
   refine⟨_,rfl,bk,_,dx,_,_,rfl,h1,T.cl,T.ak8,rfl,.inl ⟨rfl,_,SqL.of h4⟩,_,rfl,dp,_,_,rfl,rfl,h4,by rw[lp]; exact lt_trans (show _<900 by omega) (by decide),?_⟩
   refine q _ rfl dp _ Hk (.inl rfl) (Hu hB ?_)
   show aV H (fJ (B.parts++[(n,body)])) (ps++[.ref pr])
   unfold fJ
   rw[map_append]
   refine h5.app (uX ?_)
   rw[<- k1]
   exact hd
  rw[if_neg k1]at q qe
  rw[fV k1]
  refine bE ⟨_,rfl,rfl,_,rfl,?_⟩
  by_cases k2:k = "deal"
  ·rw[if_pos k2]at q qe
   rw[fW k2]
   refine aX ?_
   obtain⟨b1,b2,b3⟩:=hdeal k2
   have at0:atI (body.map V.int) 0=some (.int (body.getD 0 0)):=by
    refine bS (j:=0) ?_
    rw[getElem?_map,getD_eq_getElem?_getD,getElem?_eq_getElem (by omega)]
    rfl
   refine⟨_,rfl,bk,dx,_,rfl,h1,rfl,_,rfl,_,rfl,pb,_,_,_,rfl,rfl,sqb,at0,_,rfl,bk,de,dp,B,n,body.getD 0 0,seg,rfl,hB,n0,n9,by omega,b3,hl,fun B' hB' dq H' f' hq h'=>q B' hB' dq H' f' (.inr hq) h',fun hn H' f'=>qe hn H' f'⟩
  rw[if_neg k2]at q qe
  rw[fV k2]
  refine bE ?_
  refine⟨_,rfl,bk,_,dx,_,_,rfl,h1,T.cl,T.ak8,rfl,dp,ps,rfl,SqL.of h4,?_⟩
  by_cases kp:B.parts=[]
  case neg=>
   rw[if_pos kp]at qe
   have:(!ps.isEmpty)=true:=by
    cases ps with
    | nil=>
     rw[List.length_nil]at lp
     exact absurd (length_eq_zero_iff.mp lp.symm) kp
    | cons _ _=>rfl
   rw[this]
   exact aX ⟨(by show 1<=sizeLine; decide),qe rfl H (Frm.refl _ _ _ _)⟩
  rw[if_neg (fun z=>z kp)]at q qe
  have:(!ps.isEmpty)=false:=by
   cases ps with
   | nil=>rfl
   | cons _ _=>
    rw[kp]at lp
    simp at lp
  rw[this]
  refine bE ⟨_,rfl,rfl,_,rfl,?_⟩
  by_cases k3:k = "put"
  ·rw[if_pos k3]at q qe
   rw[fW k3]
   refine aX ?_
   refine⟨_,rfl,bk,dx,_,rfl,h1,rfl,_,rfl,_,rfl,_,rfl,bk,de,dp,pb,B,n,seg,body,rfl,hB,gb,by omega,fun B' hB' H' f' h'=>q B' hB' dp H' f' (.inl rfl) h',fun hn H' f'=>qe hn H' f'⟩
  rw[if_neg k3]at q qe
  rw[fV k3]
  refine bE ⟨_,rfl,rfl,_,rfl,?_⟩
  by_cases k4:k = "from"
  ·rw[if_pos k4]at q
   rw[fW k4]
   refine aX ?_
   refine⟨_,rfl,bk,_,dx,_,_,rfl,h1,T.cl,T.ab5,rfl,_,rfl,_,_,rfl,_,rfl,bk,_,dx,_,rfl,h1,T.cl,T.ab5,(by show 3<1000; decide),?_⟩
   exact q _ rfl dp _ yY (.inl rfl) (sA hB (Ey B.up n) h4 h5)
  rw[if_neg k4]at q qe
  rw[fV k4]
  refine bE ⟨_,rfl,rfl,_,rfl,?_⟩
  by_cases k5:k = "carried"
  ·rw[if_pos k5]at q
   rw[fW k5]
   refine aX ?_
   have b1:=hcar k5
   have at0:atI (body.map V.int) 0=some (.int (body.getD 0 0)):=by
    refine bS (j:=0) ?_
    rw[getElem?_map,getD_eq_getElem?_getD,getElem?_eq_getElem (by omega)]
    rfl
   refine⟨_,rfl,_,rfl,?_⟩
   dsimp only[mM]
   refine CB gb fun p5 H5 S5 g5=>?_
   rw[Df (by rw[length_map]; exact b1),<- List.map_drop]at g5
   refine⟨_,rfl,pb,_,_,_,rfl,rfl,S5.seqT sqb,at0,_,rfl,(by show 3<=sizeLine; decide),fun u hu=>?_⟩
   have S6:=aI (o:=.tup [.ref p5,.int (body.getD 0 0),.int seg]) hu
   generalize eH6:upd H5 u (.tup [.ref p5,.int (body.getD 0 0),.int seg])=H6 at S6 ⊢
   have g6:H6 u=some (.tup [.ref p5,.int (body.getD 0 0),.int seg]):=by rw[<- eH6]; exact aC
   have S06:aG H H6:=S5.trans S6
   have hE:lM H6 (.ref u) (body.drop 1,body.getD 0 0,seg):=⟨u,p5,rfl,g6,S6 _ _ g5⟩
   refine⟨_,rfl,bk,_,dx,_,_,rfl,S06 _ _ h1,T.cl,T.ab7,rfl,_,rfl,de,_,rfl,rP.k (k:=Sum.inl n) (S06 _ _ h2) hkl,?_⟩
   have hB7:=u7 (hB.same S06) ((h3.t (aG.tup S06)).put (n:=n) hE)
   have F7:Frm bk de dp H6 (upd H6 de (.dK (iB kvs (Sum.inl n) (.ref u)))):=uR
   generalize upd H6 de (.dK (iB kvs (Sum.inl n) (.ref u)))=H7 at hB7 F7 ⊢
   obtain⟨dx7,h17⟩:=hB7.self
   obtain⟨ps7,h47,h57⟩:=hB7.par
   refine⟨_,rfl,bk,_,dx7,_,_,rfl,h17,T.cl,T.ab5,rfl,_,rfl,_,_,rfl,rfl,_,_,rfl,_,rfl,bk,_,dx7,_,rfl,h17,T.cl,T.ab5,(by show 3<1000; decide),?_⟩
   exact q _ rfl dp _ (((aG.frm S06).trans F7 (.inl rfl)).trans yY (.inl rfl)) (.inl rfl) (sA hB7 (Ey B.up (n+1)) h47 h57)
  rw[if_neg k5]at q qe
  rw[fV k5]
  refine bE ?_
  refine⟨_,rfl,_,rfl,bk,_,dx,_,_,rfl,h1,T.cl,T.ab7,rfl,de,_,rfl,fN.k (k:=Sum.inl n) h2,_,rfl,?_⟩
  have hv:=h3.val (n:=n)
  cases he:aM B.es n with
  | none=>
   rw[he]at hv q
   have hv:dS kvs (Sum.inl n)=none:=hv
   rw[hv]
   refine bE ?_
   exact q B rfl dp H (Frm.refl _ _ _ _) (.inl rfl) hB
  | some e=>
   rw[he]at hv q
   obtain⟨v,hv1,_⟩:=hv
   rw[hv1]
   refine aX ?_
   refine⟨_,rfl,bk,dx,_,rfl,h1,rfl,_,rfl,_,rfl,bk,de,dp,B,k,n,e,rfl,hB,he,by omega,fun H' f' h'=>?_⟩
   refine q _ ?_ dp H' f' (.inl rfl) h'
   dsimp only
   split
   ·rfl
   ·split <;> rfl
end
noncomputable abbrev Rw:=Str × Int × List Int
noncomputable def cA (r:Rw):PyData:=f9 r.1 r.2.1 r.2.2
noncomputable def eX (seg:Int):Bk->List Rw->Option Bk
 | B,[]=>some B
 | B,r::rs=>match dJ B r.1 r.2.1 r.2.2 seg with
  | none=>none
  | some B'=>eX seg B' rs
theorem wE (seg:Int):∀ {ps:List (Int × List Int)} {B B':Bk},puts seg B ps=some B'->B'.es.length<=B.es.length+ps.length
 | [],B,B',h=>by
  cases (Option.some.inj h:B=B')
  exact le_refl _
 | p::ps,B,B',h=>by
  unfold puts at h
  cases e:oU B p.1 p.2 seg with
  | none=>rw[e]at h; cases h
  | some B1=>
   rw[e]at h
   have h1:=wE seg h
   unfold oU at e
   split at e
   ·cases e
   ·cases (Option.some.inj e)
    have:=jX B.es p.1 (p.2,0,seg)
    rw[length_cons]
    have h1:B'.es.length<=(cN B.es p.1 (p.2,0,seg)).length+ps.length:=h1
    omega
theorem Bt {B B':Bk} {k:Str} {n seg:Int} {body:List Int} (h:dJ B k n body seg=some B'):B'.es.length+B'.parts.length<=B.es.length+B.parts.length+1:=by
 unfold dJ at h
 split at h
 ·cases (Option.some.inj h)
  show B.es.length+(B.parts++[(n,body)]).length<=_
  rw[length_append]
  exact le_refl _
 ·split at h
  ·unfold Af at h
   split at h
   ·have h1:=wE seg h
    have h2:=tP seg h
    rw[h2]
    have h1:B'.es.length<=B.es.length+B.parts.length:=h1
    show B'.es.length+0<=_
    omega
   ·cases h
  ·split at h
   ·cases h
   ·split at h
    ·unfold oU at h
     split at h
     ·cases h
     ·cases (Option.some.inj h)
      have:=jX B.es n (body,0,seg)
      show (cN B.es n (body,0,seg)).length+B.parts.length<=_
      omega
    ·split at h
     ·cases (Option.some.inj h)
      exact le_succ _
     ·split at h
      ·cases (Option.some.inj h)
       have:=jX B.es n (body.drop 1,body.getD 0 0,seg)
       show (cN B.es n (body.drop 1,body.getD 0 0,seg)).length+B.parts.length<=_
       omega
      ·split at h
       ·cases (Option.some.inj h)
        exact le_succ _
       ·rename_i e _
        split at h
        ·cases (Option.some.inj h)
         have:=jX B.es n (e.1,e.2.1+1,e.2.2)
         show (cN B.es n (e.1,e.2.1+1,e.2.2)).length+B.parts.length<=_
         omega
        ·split at h
         ·cases (Option.some.inj h)
          have:=jX B.es n (e.1,0,e.2.2)
          show (cN B.es n (e.1,0,e.2.2)).length+B.parts.length<=_
          omega
         ·cases (Option.some.inj h)
          have:(c8 B.es n).length<=B.es.length:=length_filter_le _ _
          show (c8 B.es n).length+B.parts.length<=_
          omega
theorem rows_of {ds:List PyData} (h:ds.all aS=true):∃ rs:List Rw,ds=rs.map cA/\∀ r∈rs,aS (cA r)=true:=by
 induction ds with
 | nil=>exact⟨[],rfl,fun r hr=>absurd hr (by simp)⟩
 | cons d ds ih=>
  rw[all_cons,and_eq_true]at h
  obtain⟨rs,e,hr⟩:=ih h.2
  have h1:=h.1
  have:∃ r:Rw,d=cA r:=by
   match d,h1 with
   | .tuple [.str k,.int n,.tuple bs],h1=>
    simp only[aS,and_eq_true]at h1
    have hb:bs.all (bN 0 255)=true:=h1.2.2.1
    refine⟨(k,n,a9 (.tuple bs)),?_⟩
    show PyData.tuple [.str k,.int n,.tuple bs] = .tuple [.str k,.int n,.tuple ((a9 (.tuple bs)).map .int)]
    congr 4
    have:∀ l:List PyData,l.all (bN 0 255)=true->l=(a9 (.tuple l)).map .int:=by
     intro l hl
     induction l with
     | nil=>rfl
     | cons x l ih=>
      rw[all_cons,and_eq_true]at hl
      have:=ih hl.2
      cases x with
      | int i=>
       show PyData.int i::l=PyData.int i::(a9 (.tuple l)).map .int
       rw[<- this]
      | _=>exact absurd hl.1 (by simp [bN])
    exact congrArg PyData.tuple (this bs hb)
   | .tuple [.str k,.int n,.list _],h1=>simp [aS,cD]at h1
   | .tuple [.str k,.int n,.int _],h1=>simp [aS,cD]at h1
   | .tuple [.str k,.int n,.str _],h1=>simp [aS,cD]at h1
   | .tuple [.str k,.int n,.bool _],h1=>simp [aS,cD]at h1
   | .tuple [.str k,.int n,.none],h1=>simp [aS,cD]at h1
   | .tuple [.str k,.int n,.dict _],h1=>simp [aS,cD]at h1
   | .tuple [.str k,.str _,b],h1=>simp [aS,bN]at h1
   | .tuple [.str k,.bool _,b],h1=>simp [aS,bN]at h1
   | .tuple [.str k,.none,b],h1=>simp [aS,bN]at h1
   | .tuple [.str k,.list _,b],h1=>simp [aS,bN]at h1
   | .tuple [.str k,.tuple _,b],h1=>simp [aS,bN]at h1
   | .tuple [.str k,.dict _,b],h1=>simp [aS,bN]at h1
  obtain⟨r,e1⟩:=this
  refine⟨r::rs,by rw[map_cons,<- e1,<- e],fun x hx=>?_⟩
  rcases mem_cons.mp hx with rfl | hx
  ·rw[<- e1]
   exact h1
  ·exact hr x hx
section
variable {P:Program} {w:World} {K:PySem.W.Frag} {mg:Str->Option Value} {base:Heap} {aa8 aa1 aa5 aa2:Addr}
end
def But (pl:Addr) (H H':Hp):Prop:=∀ b o,H b=some o->b≠pl->H' b=some o
theorem But.refl {pl:Addr} {H:Hp}:But pl H H:=fun b o e _=>e
theorem tL {H:Hp} {r:Rw} {v:V} (h:Den H (cA r) v):∃ t b,v = .ref t/\H t=some (.tup [.str r.1,.int r.2.1,.ref b])/\H b=some (.tup (r.2.2.map V.int)):=by
 unfold cA f9 at h
 simp only[Den,aV]at h
 obtain⟨t,_,rfl,gt,_,_,rfl,rfl,_,_,rfl,rfl,_,_,rfl,⟨b,ys,rfl,gb,hys⟩,rfl⟩:=h
 have:=b8.mp hys
 subst this
 exact⟨t,b,rfl,gt,gb⟩
structure TxtN (K:PySem.W.Frag) (mg:Str->Option Value):Prop where
 ae2:mg "len" = none
 ab8:mg "isinstance" = none
 bl2:mg "all" = none
 ar4:mg "sum" = none
 ak4:mg "tuple" = none
 ao8:mg "int" = none
 bn6:mg "bool" = none
 ar5:mg "str" = none
 ah7:mg "range" = none
 aj8:mg "enumerate" = none
 ar8:mg "list" = none
 ac9:mg "sorted" = none
 ak5:∃ t,mg "HIGHEST_BYTE" = some (.int 255 t)
section
variable {P:Program} {w:World} {K:PySem.W.Frag} {mg:Str->Option Value} {base:Heap} 
end
noncomputable abbrev qB:Stmt:=top 5
noncomputable abbrev kU:Stmt:=top 57
noncomputable abbrev jE:Stmt:=top 58
noncomputable def cC:Str:="abcdefghijklmnopqrstuvwxyz0123456789"
noncomputable def inS (signs:Str) (c:Nat):Bool:=!(Builtin.Str.occurrences signs ⟨#[c]⟩ 0 signs.length 1).isEmpty
noncomputable def o9 (x:Str):Bool:=x.cps.all fun c=>decide (c<128)
noncomputable def dD (signs:Str) (l:Int):PyData->Bool
 | .str x=>(decide (1<=(x.length:Int)) && decide ((x.length:Int)<=l)) && x.cps.toList.all (inS signs)
 | _=>false
def kO:Sp:=fun vs H Q _=>∃ (v:V) (d:PyData) (signs:Str) (l:Int),vs=[v,.str signs,.int l]/\Den H d v/\(∀ x,d = .str x->x.length<=1000/\o9 x=true)/\∀ H',aG H H'->Q (.bl (dD signs l d)) H'
structure TxtD (K:PySem.W.Frag) (mg:Str->Option Value) (aa4 aa6 ab3 aa9 aa1 ab0 aa3:Addr):Prop extends TxtN K mg where
 bc4:∃ t,mg "NAME_SIGNS" = some (.str cC t)
 au5:∃ t,mg "LONGEST_NAME" = some (.int 8 t)
 bc5:∃ t,mg "MOST_STEPS" = some (.int 100000 t)
 ai9:cU K aa4=true
 bn7:mg "BadName" = some (.ref aa4)
 aj0:cU K aa6=true
 bn8:mg "Missing" = some (.ref aa6)
 ap1:cU K ab3=true
 bu8:mg "There" = some (.ref ab3)
 aj1:cU K aa9=true
 bn9:mg "Stopped" = some (.ref aa9)
 af2:cU K aa1=true
 bc2:mg "BadRow" = some (.ref aa1)
 ad3:cU K ab0=true
 ap5:mg "BadNumber" = some (.ref ab0)
 cl:Cls K aa3
 ae3:cK K aa3 "files"
 ai2:cK K aa3 "steps_done"
 ac3:cK K aa3 "steps_ahead"
def gK (aa4:Addr):Sp:=fun vs H Q E=>∃ (v:V) (d:PyData),vs=[v]/\Den H d v/\(∀ x,d = .str x->x.length<=1000/\o9 x=true)/\(dD cC 8 d=true->∀ H',aG H H'->Q .non H')/\(dD cC 8 d=false->∀ H',aG H H'->E (.ref aa4) none H')
noncomputable def kK:PyData->Bool
 | .none=>true
 | d=>bN 0 100000 d
def iM (ab0:Addr):Sp:=fun vs H Q E=>∃ (v:V) (d:PyData),vs=[v]/\Den H d v/\(kK d=true->Q .non H)/\(kK d=false->E (.ref ab0) none H)
section
variable {P:Program} {w:World} {K:PySem.W.Frag} {mg:Str->Option Value} {base:Heap} {aa4 aa6 ab3 aa9 aa1 ab0 aa3:Addr}
theorem A4:FnScope ["thing","signs","longest"] ["thing","signs","longest"] (aH qB):=‹0›
theorem BX {f:Addr} {fd:FuncData} (F:Fun K "is_word" "is_word" qB f fd) (T:TxtN K mg):‹6› 1 f fd ["thing","signs","longest"] kO:=by
 refine F.okX A4 (fun vs H Q E h=>?_) (fun cdv A outer s H vs Q E hr h=>?_)
 ·obtain⟨v,d,signs,l,rfl,_⟩:=h
  rfl
 ·obtain⟨v,d,signs,l,rfl,hd,hz,q⟩:=h
  refine⟨_,@aA _ _ _ _ _ (@bG _ _ _ _ _ _ _ _ (@PW.pt _ _ _ (@q0 _ _ _ _ _ _ _ (@cP _ _ _ _ (@dG _ _ _ (@aY _ _ _ _ _ _ _ _ _ (iG K) (by rfl) T.ab8 dR (@aD _ _ _ _ _ _ ‹16› (@aD _ _ _ _ _ _ (@mU _ _ (.ty "str") _ _ (by rfl) T.ar5 zG (by rfl) ⋯ ⋯) (@aB _))) ⋯ ⋯ ⋯ ⋯) ⋯)) (@nR _ _ _ _ (@cP _ _ _ _ (@zY _ _ _ _ _ _ _ _ _ _ _ _ jZ jZ ‹18› (@aY _ _ _ _ _ _ _ _ _ zE (by rfl) T.ae2 iS (@aD _ _ _ _ _ _ ‹16› (@aB _)) ⋯ ⋯ ⋯ ⋯) ‹20› ⋯))))) (@aE _ _ _ (@bB _ _ _ _ (@CL _ _ _ _))) (@aR _)) (@aE _ _ _ (@bB _ _ _ _ (@aY _ _ _ _ _ _ _ _ _ (xF K) (by rfl) T.bl2 FX (@eK _ _ _ _ _ _ _ _ (@dI _ _ _ _ _ _ _ _ _ _ _ ["sign"] [("signs",1)] (by rfl) (@HI _ _ _ _ ‹16›) (fun C s2 H2 ex=>(@bI _ _ (0) _ (show List.Nodup (["sign","signs"]:List Str) by decide +kernel) (by rfl) (Or.inl (by rfl)) ⋯)) (fun C s2 H2 ex => (@Fz _)) (fun C s2 H2 ex=>(@i7 _ _ _ _ _ _ _ _ C7 ‹16› ‹17› (by rfl))) ⋯ ⋯ ⋯ ⋯) (@aB _)) ⋯ ⋯ ⋯ ⋯))),?_⟩
  refine⟨_,rfl,_,_,_,_,rfl,hd.ty,CT d,_,rfl,?_⟩
  cases d with
  | none=>exact aX (aX (q H (aG.refl H)))
  | bool x=>exact aX (aX (q H (aG.refl H)))
  | int x=>exact aX (aX (q H (aG.refl H)))
  | tuple x=>exact aX (aX (q H (aG.refl H)))
  | list x=>exact aX (aX (q H (aG.refl H)))
  | dict x=>exact aX (aX (q H (aG.refl H)))
  | str x=>
  refine bE ?_
  obtain⟨z1,z2⟩:=hz x rfl
  have e:v = .str x:=by simpa only[Den] using hd
  subst e
  have zl:x.length<=sizeLine:=le_trans z1 (by decide)
  refine⟨_,rfl,x,rfl,zl,_,_,rfl,rfl,_,rfl,?_⟩
  simp only[dD]at q
  by_cases h1:1<=(x.length:Int)
  case neg=>
   rw[if_neg (by rw[decide_eq_true_eq]; exact h1)]
   rw[decide_eq_false h1,Bool.false_and,Bool.false_and]at q
   exact⟨_,rfl,aX (q H (aG.refl H))⟩
  rw[if_pos (decide_eq_true h1)]
  rw[decide_eq_true h1,Bool.true_and]at q
  refine⟨_,rfl,_,_,rfl,rfl,_,rfl,?_⟩
  show if (!decide ((x.length:Int)<=l))=true then _ else _
  by_cases h2:(x.length:Int)<=l
  case neg=>
   rw[decide_eq_false h2]at q ⊢
   exact aX (q H (aG.refl H))
  rw[decide_eq_true h2]at q ⊢
  rw[Bool.true_and]at q
  refine bE ?_
  refine cH rfl ?_
  refine⟨_,rfl,x,rfl,z2,?_⟩
  refine fF (Fo (H:=H) x) zl (fun i y _=>∃ c,x.cps[i]? = some c/\y = .bl (inS signs c)) (fun _ _ _ _ _ h=>h) (fun σ=>∃ z,σ = [z,some (.str signs)]) ?z0 ?_ ?_
  case z0=>exact⟨none,rfl⟩
  ·intro i y σc H3 hi hσ s3 hx Q' hQ'
   obtain⟨z,rfl⟩:=hσ
   obtain⟨c,hc,rfl⟩:=hx
   refine⟨_,rfl,_,rfl,_,_,rfl,rfl,?_⟩
   exact hQ' _ _ _ ⟨_,rfl⟩ (aG.refl _) ⟨c,hc,rfl⟩
  intro D ys H' hD s' hD' hlen hR
  have ey:ys=(x.cps.toList.map (inS signs)).map V.bl:=by
   apply ext_getElem?
   intro i
   cases e:ys[i]? with
   | none=>
    have:ys.length<=i:=List.getElem?_eq_none_iff.mp e
    rw[getElem?_eq_none (by rw[length_map,length_map,length_toList]; omega)]
   | some y=>
    obtain⟨c,h1,h2⟩:=hR i y e
    rw[getElem?_map,getElem?_map,getElem?_toList,h1,h2]
    rfl
  refine⟨D,x.cps.toList.map (inS signs),rfl,SqL.of (by rw[hD',ey]),?_⟩
  rw[all_map]
  exact q H' s'
theorem vB:FnScope ["name"] ["name"] (aH kU):=‹0›
theorem vJ {f:Addr} {fd:FuncData} (F:Fun K "check_name" "check_name" kU f fd) (T:(TxtD K mg aa4 aa6 ab3 aa9 aa1 ab0 aa3)) (af7:‹7› "is_word" 1 ["thing","signs","longest"] kO):‹6› 2 f fd ["name"] (gK aa4):=by
 obtain⟨_,ay0⟩:=T.bc4
 obtain⟨_,ar9⟩:=T.au5
 refine F.okX vB (fun vs H Q E h=>?_) (fun cdv A outer s H vs Q E hr h=>?_)
 ·obtain⟨v,d,rfl,_⟩:=h
  rfl
 ·obtain⟨v,d,rfl,hd,hz,q,qe⟩:=h
  refine⟨_,@aE _ _ _ (@bG _ _ _ _ _ _ _ _ (@cP _ _ _ _ (@dG _ _ _ (@bF _ _ _ _ _ _ _ _ _ _ _ af7 ‹11› a8 (@aD _ _ _ _ _ _ ‹16› (@aD _ _ _ _ _ _ (@bX _ _ (.str "abcdefghijklmnopqrstuvwxyz0123456789") _ _ (by rfl) ay0 ⟨_,rfl⟩ ⋯) (@aD _ _ _ _ _ _ (@bX _ _ (.int 8) _ _ (by rfl) ar9 ⟨_,rfl⟩ ⋯) (@aB _)))) ⋯ ⋯ ⋯ ⋯) ⋯)) (@aE _ _ _ (@dM _ _ _ _ _ _ _ _ _ _ fG (by rfl) T.ai9 (by rfl) T.bn7 (@aP _ _ _ _ _ _ _ (@cW _ _ _ _) (@aB _)) ⋯ ⋯ ⋯)) (@aR _)),?_⟩
  refine⟨_,rfl,v,d,cC,8,rfl,hd,hz,fun H1 S1=>⟨_,rfl,?_⟩⟩
  cases hb:dD cC 8 d with
  | false=>exact aX ⟨(by show 1<=sizeLine; decide),qe hb H1 S1⟩
  | true=>exact bE (q hb H1 S1)
theorem sW:FnScope ["steps"] ["steps"] (aH jE):=‹0›
theorem tY {f:Addr} {fd:FuncData} (F:Fun K "check_steps" "check_steps" jE f fd) (T:(TxtD K mg aa4 aa6 ab3 aa9 aa1 ab0 aa3)) (ab2:(Callee P w K mg base "is_number" 1 ["thing", "least", "most"] kP)):‹6› 2 f fd ["steps"] (iM ab0):=by
 obtain⟨_,ay1⟩:=T.bc5
 refine F.okX sW (fun vs H Q E h=>?_) (fun cdv A outer s H vs Q E hr h=>?_)
 ·obtain⟨v,d,rfl,_⟩:=h
  rfl
 ·obtain⟨v,d,rfl,hd,q,qe⟩:=h
  refine⟨_,@aE _ _ _ (@bG _ _ _ _ _ _ _ _ (@PW.pt _ _ _ (@tO _ _ _ _ _ _ _ (@aZ _ _ _ _ _ _ _ _ yH ‹16› (@lB _ _ _) (bK _)) (@oQ _ _ _ _ (@cP _ _ _ _ (@dG _ _ _ (@bF _ _ _ _ _ _ _ _ _ _ _ ab2 ‹11› a8 (@aD _ _ _ _ _ _ ‹16› (@aP _ _ _ _ _ _ _ ‹18› (@aD _ _ _ _ _ _ (@bX _ _ (.int 100000) _ _ (by rfl) ay1 ⟨_,rfl⟩ ⋯) (@aB _)))) ⋯ ⋯ ⋯ ⋯) ⋯))))) (@aE _ _ _ (@dM _ _ _ _ _ _ _ _ _ _ fG (by rfl) T.ad3 (by rfl) T.ap5 (@aP _ _ _ _ _ _ _ (@cW _ _ _ _) (@aB _)) ⋯ ⋯ ⋯)) (@aR _)),?_⟩
  by_cases hv:v = .non
  ·subst hv
   have:kK d=true:=by
    cases d with
    | none=>rfl
    | bool b=>simp only[Den]at hd; cases hd
    | int b=>simp only[Den]at hd; cases hd
    | str b=>simp only[Den]at hd; cases hd
    | tuple b=>simp only[Den]at hd; obtain⟨_,_,e,_⟩:=hd; cases e
    | list b=>simp only[Den]at hd; obtain⟨_,_,e,_⟩:=hd; cases e
    | dict b=>simp only[Den]at hd
   exact⟨_,rfl,rfl,_,rfl,bE (bE (q this))⟩
  ·have e:kK d=bN 0 100000 d:=by
    cases d with
    | none=>simp only[Den]at hd; exact absurd hd hv
    | _=>rfl
   rw[e]at q qe
   refine⟨_,rfl,rfl,_,rfl,?_⟩
   rw[decide_eq_false hv]
   refine aX ⟨_,rfl,v,d,0,100000,rfl,hd,_,rfl,?_⟩
   cases hb:bN 0 100000 d with
   | false=>exact aX ⟨(by show 1<=sizeLine; decide),qe hb⟩
   | true=>exact bE (q hb)
end
structure Dk where
 fs:List (Str × List Int)
 done:Int
 left:Option Int
noncomputable def Gw:Option Int->V
 | none=>.non
 | some n=>.int n
noncomputable def aO (fs:List (Str × List Int)) (n:Str):Option (List Int):=(fs.find? fun p=>decide (p.1=n)).map (·.2)
noncomputable def fY (fs:List (Str × List Int)) (n:Str):List (Str × List Int):=fs.filter fun p=>decide (p.1≠n)
def Bs (H:Hp) (v:V) (bs:List Int):Prop:=∃ l,v = .ref l/\H l=some (.lst (bs.map V.int))
def FsR (H:Hp):List (Str × List Int)->List (Key × V)->Prop
 | [],[]=>True
 | p::fs,q::kvs=>q.1=Sum.inr p.1/\Bs H q.2 p.2/\FsR H fs kvs
 | _,_=>False
noncomputable def dkF (df:Addr) (done:Int) (left:Option Int):List (Str × V):=[("files",.ref df),("steps_done",.int done),("steps_ahead",Gw left)]
structure DiskAt (C:Addr) (H:Hp) (dk df:Addr) (kvs:List (Key × V)) (D:Dk):Prop where
 self:∃ dx,H dk=some (.ins C dx (dkF df D.done D.left))
 files:H df=some (.dK kvs)
 rel:FsR H D.fs kvs
 nd:(kvs.map (·.2)).Nodup
 kn:(D.fs.map (·.1)).Nodup
def own (dk df:Addr) (kvs:List (Key × V)) (b:Addr):Prop:=b=dk\/b=df\/V.ref b∈kvs.map (·.2)
def rN (dk df:Addr) (kvs:List (Key × V)) (H H':Hp):Prop:=∀ b o,H b=some o->¬ own dk df kvs b->H' b=some o
def Dq (dk df:Addr) (kvs kvs':List (Key × V)) (H:Hp):Prop:=∀ b,own dk df kvs' b->own dk df kvs b\/H b=none
theorem FsR.same {H H':Hp}:∀ {fs:List (Str × List Int)} {kvs:List (Key × V)},(∀ b o,H b=some o->V.ref b∈kvs.map (·.2)->H' b=some o)->FsR H fs kvs->FsR H' fs kvs
 | [],[],_,_=>trivial
 | p::fs,q::kvs,s,h=>by
  obtain⟨h1,⟨l,e,g⟩,h3⟩:=h
  exact⟨h1,⟨l,e,s l _ g (by rw[map_cons,e]; exact mem_cons_self)⟩,FsR.same (fun b o e m=>s b o e (mem_cons_of_mem _ m)) h3⟩
 | [],_::_,_,h=>h.elim
 | _::_,[],_,h=>h.elim
theorem FsR.len {H:Hp}:∀ {fs:List (Str × List Int)} {kvs:List (Key × V)},FsR H fs kvs->kvs.length=fs.length
 | [],[],_=>rfl
 | p::fs,q::kvs,h=>by rw[length_cons,length_cons,FsR.len h.2.2]
 | [],_::_,h=>h.elim
 | _::_,[],h=>h.elim
theorem FsR.keys {H:Hp}:∀ {fs:List (Str × List Int)} {kvs:List (Key × V)},FsR H fs kvs->kvs.map (·.1)=(fs.map (·.1)).map Sum.inr
 | [],[],_=>rfl
 | p::fs,q::kvs,h=>by rw[map_cons,map_cons,map_cons,h.1,FsR.keys h.2.2]
 | [],_::_,h=>h.elim
 | _::_,[],h=>h.elim
theorem Bm {a b:Str}:((Sum.inr a:Key)=Sum.inr b) ↔ a=b:=⟨Sum.inr.inj,fun h=>by rw[h]⟩
theorem FsR.val {H:Hp} {n:Str}:∀ {fs:List (Str × List Int)} {kvs:List (Key × V)},FsR H fs kvs->(match aO fs n with | none=>dS kvs (Sum.inr n)=none | some e=>∃ v,dS kvs (Sum.inr n)=some v/\Bs H v e)
 | [],[],_=>rfl
 | p::fs,q::kvs,h=>by
  obtain⟨h1,h2,h3⟩:=h
  have ih:=FsR.val (n:=n) h3
  by_cases e:p.1=n
  ·have:aO (p::fs) n=some p.2:=by simp [aO,e]
   rw[this]
   exact⟨q.2,iH (by rw[h1,e]),h2⟩
  ·have e1:aO (p::fs) n=aO fs n:=by simp [aO,e]
   have e2:dS (q::kvs) (Sum.inr n)=dS kvs (Sum.inr n):=iI (by rw[h1,Bm]; exact e)
   rw[e1,e2]
   exact ih
 | [],_::_,h=>h.elim
 | _::_,[],h=>h.elim
theorem oX {C dk df:Addr} {H:Hp} {kvs:List (Key × V)} {D:Dk} (h:DiskAt C H dk df kvs D):dk≠df/\V.ref dk ∉ kvs.map (·.2)/\V.ref df ∉ kvs.map (·.2):=by
 have key:∀ {fs:List (Str × List Int)} {kvs:List (Key × V)},FsR H fs kvs->∀ b,V.ref b∈kvs.map (·.2)->∃ xs,H b=some (.lst xs):=by
  intro fs
  induction fs with
  | nil=>
   intro kvs hr b hb
   cases kvs with
   | nil=>simp at hb
   | cons _ _=>exact hr.elim
  | cons p fs ih=>
   intro kvs hr b hb
   cases kvs with
   | nil=>exact hr.elim
   | cons q kvs=>
    obtain⟨_,⟨l,e,g⟩,h3⟩:=hr
    rw[map_cons,mem_cons]at hb
    rcases hb with hb | hb
    ·rw[e]at hb
     cases hb
     exact⟨_,g⟩
    ·exact ih h3 b hb
 obtain⟨dx,h1⟩:=h.self
 refine⟨?_,fun hb=>?_,fun hb=>?_⟩
 ·rintro rfl
  rw[h.files]at h1
  cases h1
 ·obtain⟨xs,e⟩:=key h.rel _ hb
  rw[h1]at e
  cases e
 ·obtain⟨xs,e⟩:=key h.rel _ hb
  rw[h.files]at e
  cases e
theorem qS {C dk df dx:Addr} {H:Hp} {kvs:List (Key × V)} {D:Dk} (h:DiskAt C H dk df kvs D) (done:Int) (left:Option Int):DiskAt C (upd H dk (.ins C dx (dkF df done left))) dk df kvs ⟨D.fs,done,left⟩:=by
 obtain⟨n1,n2,n3⟩:=oX h
 refine⟨⟨dx,aC⟩,by rw[aF (Ne.symm n1)]; exact h.files,h.rel.same fun b o e m=>?_,h.nd,h.kn⟩
 rw[aF (fun z=>by rw[z]at m; exact n2 m)]
 exact e
theorem DiskAt.same {C dk df:Addr} {H H':Hp} {kvs:List (Key × V)} {D:Dk} (h:DiskAt C H dk df kvs D) (s:aG H H'):DiskAt C H' dk df kvs D:=by
 obtain⟨dx,h1⟩:=h.self
 exact⟨⟨dx,s _ _ h1⟩,s _ _ h.files,h.rel.same fun b o e _=>s b o e,h.nd,h.kn⟩
noncomputable def iJ (D:Dk):Option Dk:=match D.left with
 | none=>some ⟨D.fs,D.done+1,none⟩
 | some n=>if n=0 then none else some ⟨D.fs,D.done+1,some (n - 1)⟩
noncomputable abbrev kT:Stmt:=bL (top 59) 12
def fB (C aa9:Addr):Sp:=fun vs H Q E=>∃ (dk df:Addr) (kvs:List (Key × V)) (D:Dk),vs=[.ref dk]/\DiskAt C H dk df kvs D/\(∀ D',iJ D=some D'->∀ H',(∀ b o,H b=some o->b≠dk->H' b=some o)->DiskAt C H' dk df kvs D'->Q .non H')/\(iJ D=none->E (.ref aa9) none H)
section
variable {P:Program} {w:World} {K:PySem.W.Frag} {mg:Str->Option Value} {base:Heap} {aa4 aa6 ab3 aa9 aa1 ab0 aa3:Addr}
theorem nK:FnScope ["self"] ["self"] (aH kT):=‹0›
theorem vI {f:Addr} {fd:FuncData} (F:Fun K "count_step" "Disk.count_step" kT f fd) (T:(TxtD K mg aa4 aa6 ab3 aa9 aa1 ab0 aa3)):‹6› 1 f fd ["self"] (fB aa3 aa9):=by
 refine F.okX nK (fun vs H Q E h=>?_) (fun cdv A outer s H vs Q E hr h=>?_)
 ·obtain⟨dk,df,kvs,D,rfl,_⟩:=h
  rfl
 ·obtain⟨dk,df,kvs,D,rfl,hD,q,qe⟩:=h
  refine⟨_,@aA _ _ _ _ _ (@bG _ _ _ _ _ _ _ _ (@aZ _ _ _ _ _ _ _ _ iQ ‹26› ‹18› (bK _)) (@aE _ _ _ (@dM _ _ _ _ _ _ _ _ _ _ fG (by rfl) T.aj1 (by rfl) T.bn9 (@aP _ _ _ _ _ _ _ (@cW _ _ _ _) (@aB _)) ⋯ ⋯ ⋯)) (@aR _)) (@aA _ _ _ _ _ (@bG _ _ _ _ _ _ _ _ (@aZ _ _ _ _ _ _ _ _ yH ‹26› (@lB _ _ _) (bK _)) (@aE _ _ _ (@mT _ _ _ _ _ _ _ _ _ _ ‹16› ‹18› Hh)) (@aR _)) (@aE _ _ _ (@mT _ _ _ _ _ _ _ _ _ _ ‹16› ‹18› Bp))),?_⟩
  obtain⟨dx,h1⟩:=hD.self
  obtain⟨fs,done,left⟩:=D
  unfold iJ at q qe
  cases left with
  | none=>
   refine⟨_,rfl,dk,_,dx,_,_,rfl,h1,T.cl,T.ac3,rfl,rfl,_,rfl,bE ?_⟩
   refine cH rfl ?_
   refine⟨_,rfl,dk,_,dx,_,_,rfl,h1,T.cl,T.ac3,rfl,rfl,_,rfl,bE ?_⟩
   refine cH rfl ?_
   refine⟨_,rfl,dk,_,dx,_,_,rfl,h1,T.cl,T.ai2,rfl,_,_,rfl,rfl,dx,_,h1,(by show 3<1000; decide),?_⟩
   exact q _ rfl _ (fun b o e nb=>by rw[aF nb]; exact e) (qS hD (done+1) none)
  | some n=>
   refine⟨_,rfl,dk,_,dx,_,_,rfl,h1,T.cl,T.ac3,rfl,rfl,_,rfl,?_⟩
   by_cases hn:n=0
   ·subst hn
    refine aX ?_
    exact⟨(by show 1<=sizeLine; decide),qe rfl⟩
   ·have e0:decide (V.int n=V.int 0)=false:=decide_eq_false (fun z=>hn (V.int.inj z))
    show if decide (V.int n=V.int 0)=true then _ else _
    rw[e0]
    refine bE ?_
    refine cH rfl ?_
    refine⟨_,rfl,dk,_,dx,_,_,rfl,h1,T.cl,T.ac3,rfl,rfl,_,rfl,aX ?_⟩
    refine⟨_,rfl,dk,_,dx,_,_,rfl,h1,T.cl,T.ac3,rfl,_,_,rfl,rfl,dx,_,h1,(by show 3<1000; decide),?_⟩
    have h2:=qS (dx:=dx) hD done (some (n - 1))
    have g2:upd H dk (.ins aa3 dx (dkF df done (some (n - 1)))) dk=some (.ins aa3 dx (dkF df done (some (n - 1)))):=aC
    refine⟨_,rfl,dk,_,dx,_,_,rfl,g2,T.cl,T.ai2,rfl,_,_,rfl,rfl,dx,_,g2,(by show 3<1000; decide),?_⟩
    exact q _ (by dsimp only; rw[if_neg hn]) _ (fun b o e nb=>by rw[aF nb,aF nb]; exact e) (qS h2 (done+1) (some (n - 1)))
end
noncomputable abbrev yC:Stmt:=bL (top 59) 0
noncomputable abbrev A9:Stmt:=bL (top 59) 2
noncomputable abbrev BB:Stmt:=bL (top 59) 5
noncomputable abbrev yA:Stmt:=bL (top 59) 6
noncomputable abbrev A7:Stmt:=bL (top 59) 7
noncomputable abbrev A5:Stmt:=bL (top 59) 8
noncomputable abbrev kX:Stmt:=bL (top 59) 11
def nU (d:PyData):Prop:=∀ x,d = .str x->x.length<=1000/\o9 x=true
theorem zJ {signs:Str} {l:Int} {d:PyData} (h:dD signs l d=true):∃ x,d = .str x:=by
 cases d with
 | str x=>exact⟨x,rfl⟩
 | _=>cases h
def jA (C aa4 aa6:Addr):Sp:=fun vs H Q E=>∃ (dk df:Addr) (kvs:List (Key × V)) (D:Dk) (v:V) (d:PyData),vs=[.ref dk,v]/\DiskAt C H dk df kvs D/\Den H d v/\nU d/\
 (dD cC 8 d=false->∀ H',aG H H'->E (.ref aa4) none H')/\(∀ n,d = .str n->dD cC 8 d=true->(aO D.fs n=none->∀ H',aG H H'->E (.ref aa6) none H')/\(∀ bs,aO D.fs n=some bs->∀ H',aG H H'->Q .non H'))
def iW (C aa4 aa6:Addr):Sp:=fun vs H Q E=>∃ (dk df:Addr) (kvs:List (Key × V)) (D:Dk) (v:V) (d:PyData),vs=[.ref dk,v]/\DiskAt C H dk df kvs D/\Den H d v/\nU d/\
 (dD cC 8 d=false->∀ H',aG H H'->E (.ref aa4) none H')/\(∀ n,d = .str n->dD cC 8 d=true->(aO D.fs n=none->∀ H',aG H H'->E (.ref aa6) none H')/\(∀ bs,aO D.fs n=some bs->∀ p H',aG H H'->H' p=some (.tup (bs.map V.int))->Q (.ref p) H'))
def n8 (C aa4 aa6:Addr):Sp:=fun vs H Q E=>∃ (dk df:Addr) (kvs:List (Key × V)) (D:Dk) (v:V) (d:PyData),vs=[.ref dk,v]/\DiskAt C H dk df kvs D/\Den H d v/\nU d/\
 (dD cC 8 d=false->∀ H',aG H H'->E (.ref aa4) none H')/\(∀ n,d = .str n->dD cC 8 d=true->(aO D.fs n=none->∀ H',aG H H'->E (.ref aa6) none H')/\(∀ bs,aO D.fs n=some bs->∀ H',aG H H'->Q (.int (bs.length:Int)) H'))
def fA (C:Addr):Sp:=fun vs H Q _=>∃ (dk df:Addr) (kvs:List (Key × V)) (D:Dk),vs=[.ref dk]/\DiskAt C H dk df kvs D/\D.fs.length<500/\∀ p ms,List.Perm ms (D.fs.map (·.1))->PyProof.Rows.sortedS ms=true->∀ H',aG H H'->H' p=some (.lst (ms.map V.str))->H p=none->Q (.ref p) H'
noncomputable def Gx:PyData->Option Int
 | .int n=>some n
 | _=>none
def sL (C ab0:Addr):Sp:=fun vs H Q E=>∃ (dk dx:Addr) (v:V) (d:PyData),vs=[.ref dk,v]/\H dk=some (.ins C dx [])/\Den H d v/\(kK d=false->E (.ref ab0) none H)/\
 (kK d=true->∀ df H',(∀ b o,H b=some o->b≠dk->H' b=some o)->H df=none->DiskAt C H' dk df [] ⟨[],0,Gx d⟩->Q .non H')
def oB (C aa4 ab3 aa9:Addr):Sp:=fun vs H Q E=>∃ (dk df:Addr) (kvs:List (Key × V)) (D:Dk) (v:V) (d:PyData),vs=[.ref dk,v]/\DiskAt C H dk df kvs D/\Den H d v/\nU d/\D.fs.length<1000/\
 (dD cC 8 d=false->∀ H',aG H H'->E (.ref aa4) none H')/\(∀ n,d = .str n->dD cC 8 d=true->(∀ bs,aO D.fs n=some bs->∀ H',aG H H'->E (.ref ab3) none H')/\
  (aO D.fs n=none->(iJ D=none->∀ H',aG H H'->E (.ref aa9) none H')/\(∀ D1,iJ D=some D1->∀ kvs' H',rN dk df kvs H H'->Dq dk df kvs kvs' H->DiskAt C H' dk df kvs' ⟨D1.fs++[(n,[])],D1.done,D1.left⟩->Q .non H')))
def oF (C aa4 aa6 aa9:Addr):Sp:=fun vs H Q E=>∃ (dk df:Addr) (kvs:List (Key × V)) (D:Dk) (v:V) (d:PyData),vs=[.ref dk,v]/\DiskAt C H dk df kvs D/\Den H d v/\nU d/\
 (dD cC 8 d=false->∀ H',aG H H'->E (.ref aa4) none H')/\(∀ n,d = .str n->dD cC 8 d=true->(aO D.fs n=none->∀ H',aG H H'->E (.ref aa6) none H')/\
  (∀ bs,aO D.fs n=some bs->(iJ D=none->∀ H',aG H H'->E (.ref aa9) none H')/\(∀ D1,iJ D=some D1->∀ kvs' H',rN dk df kvs H H'->Dq dk df kvs kvs' H->DiskAt C H' dk df kvs' ⟨fY D1.fs n,D1.done,D1.left⟩->Q .non H')))
theorem n6 {D D1:Dk} (h:iJ D=some D1):D1.fs=D.fs:=by
 unfold iJ at h
 split at h
 ·cases (Option.some.inj h)
  rfl
 ·split at h
  ·cases h
  ·cases (Option.some.inj h)
   rfl
theorem FsR.snoc {H:Hp} {n:Str} {e:List Int} {v:V} (hv:Bs H v e):∀ {fs:List (Str × List Int)} {kvs:List (Key × V)},FsR H fs kvs->FsR H (fs++[(n,e)]) (kvs++[(Sum.inr n,v)])
 | [],[],_=>⟨rfl,hv,trivial⟩
 | p::fs,q::kvs,h=>⟨h.1,h.2.1,FsR.snoc hv h.2.2⟩
 | [],_::_,h=>h.elim
 | _::_,[],h=>h.elim
theorem FsR.drop {H:Hp} {n:Str}:∀ {fs:List (Str × List Int)} {kvs:List (Key × V)},FsR H fs kvs->FsR H (fY fs n) (hJ kvs (Sum.inr n))
 | [],[],_=>trivial
 | p::fs,q::kvs,h=>by
  obtain⟨h1,h2,h3⟩:=h
  have ih:=FsR.drop (n:=n) h3
  by_cases z:p.1=n
  ·have e1:fY (p::fs) n=fY fs n:=by simp [fY,z]
   rw[e1,wX (by rw[h1,z])]
   exact ih
  ·have e1:fY (p::fs) n=p::fY fs n:=by simp [fY,z]
   rw[e1,wY (by rw[h1,Bm]; exact z)]
   exact⟨h1,h2,ih⟩
 | [],_::_,h=>h.elim
 | _::_,[],h=>h.elim
theorem DL {fs:List (Str × List Int)} {n:Str} (h:aO fs n=none):n ∉ fs.map (·.1):=by
 intro hm
 rw[mem_map]at hm
 obtain⟨p,hp,rfl⟩:=hm
 unfold aO at h
 rw[Option.map_eq_none_iff,find?_eq_none]at h
 exact h p hp (decide_eq_true rfl)
section
variable {P:Program} {w:World} {K:PySem.W.Frag} {mg:Str->Option Value} {base:Heap} {aa4 aa6 ab3 aa9 aa1 ab0 aa3:Addr}
theorem nL:FnScope ["self","name"] ["self","name"] (aH kX):=‹0›
theorem vL {f:Addr} {fd:FuncData} (F:Fun K "check_file" "Disk.check_file" kX f fd) (T:(TxtD K mg aa4 aa6 ab3 aa9 aa1 ab0 aa3)) (ac5:‹7› "check_name" 2 ["name"] (gK aa4)):‹6› 3 f fd ["self","name"] (jA aa3 aa4 aa6):=by
 refine F.okX nL (fun vs H Q E h=>?_) (fun cdv A outer s H vs Q E hr h=>?_)
 ·obtain⟨dk,df,kvs,D,v,d,rfl,_⟩:=h
  rfl
 ·obtain⟨dk,df,kvs,D,v,d,rfl,hD,hd,hn,qb,q⟩:=h
  refine⟨_,@aA _ _ _ _ _ (aT (bF ac5 ‹11› bO (aD (pv 1) aB))) (@aE _ _ _ (@bG _ _ _ _ _ _ _ _ (@tR _ _ _ _ _ _ (@qJ _ _ _ _ _ (hu1 hr.units) ‹17› ‹26›) ⋯) (@aE _ _ _ (@dM _ _ _ _ _ _ _ _ _ _ fG (by rfl) T.aj0 (by rfl) T.bn8 (@aP _ _ _ _ _ _ _ (@cW _ _ _ _) (@aB _)) ⋯ ⋯ ⋯)) (@aR _))),?_⟩
  refine⟨_,rfl,v,d,rfl,hd,hn,fun hw H1 S1=>?_,qb⟩
  obtain⟨n,rfl⟩:=zJ hw
  obtain⟨qm,q⟩:=q n rfl hw
  have ev:v = .str n:=by simpa only[Den] using hd
  subst ev
  obtain⟨dx,h1⟩:=hD.self
  refine⟨_,rfl,_,rfl,dk,_,dx,_,_,rfl,S1 _ _ h1,T.cl,T.ae3,rfl,df,_,rfl,fN.k (k:=Sum.inr n) (S1 _ _ hD.files),_,rfl,?_⟩
  have hv:=hD.rel.val (n:=n)
  cases he:aO D.fs n with
  | none=>
   rw[he]at hv
   have hv:dS kvs (Sum.inr n)=none:=hv
   rw[hv]
   exact aX ⟨(by show 1<=sizeLine; decide),qm he H1 S1⟩
  | some bs=>
   rw[he]at hv
   obtain⟨v,hv1,_⟩:=hv
   rw[hv1]
   exact bE (q bs he H1 S1)
theorem x5:FnScope ["self","name"] ["self","name"] (aH A7):=‹0›
theorem GD {f:Addr} {fd:FuncData} (F:Fun K "read" "Disk.read" A7 f fd) (T:(TxtD K mg aa4 aa6 ab3 aa9 aa1 ab0 aa3)) (ac2:(Method P w K mg base aa3 "check_file" 3 ["self", "name"] (jA aa3 aa4 aa6))):‹6› 4 f fd ["self","name"] (iW aa3 aa4 aa6):=by
 refine F.okX x5 (fun vs H Q E h=>?_) (fun cdv A outer s H vs Q E hr h=>?_)
 ·obtain⟨dk,df,kvs,D,v,d,rfl,_⟩:=h
  rfl
 ·obtain⟨dk,df,kvs,D,v,d,rfl,hD,hd,hn,qb,q⟩:=h
  refine⟨_,@aA _ _ _ _ _ (aT (cF ac2 T.cl ‹11› bO (pv 0) (aD (pv 1) aB))) (@aE _ _ _ (@bB _ _ _ _ (@iE _ _ _ _ _ _ _ _ _ (Al K) (by rfl) T.ak4 u6 (@aN _ _ _ _ _ _ _ (@i6 _ _ _ _ _ _ (hu1 hr.units) ‹26› ‹17› (fun _ _=>rfl)) (@aB _)) ⋯ ⋯ ⋯ ⋯))),?_⟩
  obtain⟨dx,h1⟩:=hD.self
  refine⟨_,rfl,dk,dx,_,rfl,h1,rfl,_,rfl,dk,df,kvs,D,v,d,rfl,hD,hd,hn,qb,fun n en hw=>?_⟩
  obtain⟨qm,q2⟩:=q n en hw
  subst en
  have ev:v = .str n:=by simpa only[Den] using hd
  subst ev
  refine⟨qm,fun bs hbs H1 S1=>?_⟩
  have hv:=hD.rel.val (n:=n)
  rw[hbs]at hv
  obtain⟨v,hv1,l,rfl,gl⟩:=hv
  have dg:fN H1 df (.str n) (some (.ref l)):=by
   have:=fN.k (k:=Sum.inr n) (S1 _ _ hD.files)
   rw[hv1]at this
   exact this
  refine⟨_,rfl,dk,_,dx,_,_,rfl,S1 _ _ h1,T.cl,T.ae3,rfl,_,rfl,df,_,rfl,dg,l,_,rfl,.inl ⟨SqL.of (S1 _ _ gl),fun p hp=>?_⟩⟩
  exact q2 bs hbs p _ (S1.trans (aI hp)) aC
theorem x4:FnScope ["self","name"] ["self","name"] (aH A5):=‹0›
theorem GB {f:Addr} {fd:FuncData} (F:Fun K "size" "Disk.size" A5 f fd) (T:(TxtD K mg aa4 aa6 ab3 aa9 aa1 ab0 aa3)) (ac2:(Method P w K mg base aa3 "check_file" 3 ["self", "name"] (jA aa3 aa4 aa6))):‹6› 4 f fd ["self","name"] (n8 aa3 aa4 aa6):=by
 refine F.okX x4 (fun vs H Q E h=>?_) (fun cdv A outer s H vs Q E hr h=>?_)
 ·obtain⟨dk,df,kvs,D,v,d,rfl,_⟩:=h
  rfl
 ·obtain⟨dk,df,kvs,D,v,d,rfl,hD,hd,hn,qb,q⟩:=h
  refine⟨_,@aA _ _ _ _ _ (aT (cF ac2 T.cl ‹11› bO (pv 0) (aD (pv 1) aB))) (@aE _ _ _ (@bB _ _ _ _ (@aY _ _ _ _ _ _ _ _ _ (dQ K) (by rfl) T.ae2 iS (@aN _ _ _ _ _ _ _ (@i6 _ _ _ _ _ _ (hu1 hr.units) ‹26› ‹17› (fun _ _=>rfl)) (@aB _)) ⋯ ⋯ ⋯ ⋯))),?_⟩
  obtain⟨dx,h1⟩:=hD.self
  refine⟨_,rfl,dk,dx,_,rfl,h1,rfl,_,rfl,dk,df,kvs,D,v,d,rfl,hD,hd,hn,qb,fun n en hw=>?_⟩
  obtain⟨qm,q2⟩:=q n en hw
  subst en
  have ev:v = .str n:=by simpa only[Den] using hd
  subst ev
  refine⟨qm,fun bs hbs H1 S1=>?_⟩
  have hv:=hD.rel.val (n:=n)
  rw[hbs]at hv
  obtain⟨v,hv1,l,rfl,gl⟩:=hv
  have dg:fN H1 df (.str n) (some (.ref l)):=by
   have:=fN.k (k:=Sum.inr n) (S1 _ _ hD.files)
   rw[hv1]at this
   exact this
  refine⟨_,rfl,dk,_,dx,_,_,rfl,S1 _ _ h1,T.cl,T.ae3,rfl,_,rfl,df,_,rfl,dg,l,_,rfl,.inl (SqL.of (S1 _ _ gl)),?_⟩
  rw[length_map]
  exact q2 bs hbs H1 S1
theorem vG:FnScope ["self"] ["self"] (aH yA):=‹0›
theorem En {f:Addr} {fd:FuncData} (F:Fun K "names" "Disk.names" yA f fd) (T:(TxtD K mg aa4 aa6 ab3 aa9 aa1 ab0 aa3)):‹6› 1 f fd ["self"] (fA aa3):=by
 refine F.okX vG (fun vs H Q E h=>?_) (fun cdv A outer s H vs Q E hr h=>?_)
 ·obtain⟨dk,df,kvs,D,rfl,_⟩:=h
  rfl
 ·obtain⟨dk,df,kvs,D,rfl,hD,hl,q⟩:=h
  refine⟨_,@aE _ _ _ (@bB _ _ _ _ (@aY _ _ _ _ _ _ _ _ _ (@zB _ (by rfl)) (by rfl) T.ac9 gJ (@cT _ _ _ _ _ _ _ ‹26› (@aB _)) ⋯ ⋯ ⋯ ⋯)),?_⟩
  obtain⟨dx,h1⟩:=hD.self
  refine⟨_,rfl,dk,_,dx,_,_,rfl,h1,T.cl,T.ae3,rfl,df,kvs,_,rfl,hD.files,hD.rel.keys,by rw[length_map]; omega,fun p ms perm so hp=>?_⟩
  exact q p ms perm so _ (aI hp) aC hp
theorem HW {H:Hp} {v:V} {d:PyData} (hd:Den H d v) (hs:kK d=true):v=Gw (Gx d):=by
 cases d with
 | none=>simp only[Den]at hd; exact hd
 | int n=>simp only[Den]at hd; exact hd
 | _=>cases hs
theorem pP:FnScope ["self","steps"] ["self","steps"] (aH yC):=‹0›
theorem Er {f:Addr} {fd:FuncData} (F:Fun K "__init__" "Disk.__init__" yC f fd) (T:(TxtD K mg aa4 aa6 ab3 aa9 aa1 ab0 aa3)) (ah1:‹7› "check_steps" 2 ["steps"] (iM ab0)):‹6› 3 f fd ["self","steps"] (sL aa3 ab0):=by
 refine F.okX pP (fun vs H Q E h=>?_) (fun cdv A outer s H vs Q E hr h=>?_)
 ·obtain⟨dk,dx,v,d,rfl,_⟩:=h
  rfl
 ·obtain⟨dk,dx,v,d,rfl,h1,hd,qb,q⟩:=h
  refine⟨_,@aA _ _ _ _ _ (aT (bF ah1 ‹11› bO (aD (pv 1) aB))) (@aA _ _ _ _ _ (@cQ _ _ _ _ _ _ _ _ ‹16› (@oW _ _) (by rfl)) (@aA _ _ _ _ _ (@cQ _ _ _ _ _ _ _ _ ‹16› ‹18› (by rfl)) (@aE _ _ _ (@cQ _ _ _ _ _ _ _ _ ‹16› ‹17› (by rfl))))),?_⟩
  refine⟨_,rfl,v,d,rfl,hd,fun hs=>?_,qb⟩
  have ev:=HW hd hs
  subst ev
  refine fun df hdf=>?_
  have ndf:dk≠df:=fun z=>by rw[z,hdf]at h1; cases h1
  refine⟨_,rfl,dk,_,dx,_,rfl,by rw[aF ndf]; exact h1,T.cl,T.ae3,(by show 0<1000; decide),?_⟩
  refine⟨_,rfl,dk,_,dx,_,rfl,aC,T.cl,T.ai2,(by show 1<1000; decide),?_⟩
  refine⟨_,rfl,_,rfl,dk,_,dx,_,rfl,aC,T.cl,T.ac3,(by show 2<1000; decide),?_⟩
  refine q hs df _ (fun b o e nb=>?_) hdf ⟨⟨dx,?_⟩,?_,trivial,List.nodup_nil,List.nodup_nil⟩
  ·rw[aF nb,aF nb,aF nb,aF (fun z=>by rw[z,hdf]at e; cases e)]
   exact e
  ·rw[aC]
   rfl
  ·rw[aF (Ne.symm ndf),aF (Ne.symm ndf),aF (Ne.symm ndf)]
   exact aC
theorem x6:FnScope ["self","name"] ["self","name"] (aH A9):=‹0›
theorem GF {f:Addr} {fd:FuncData} (F:Fun K "make" "Disk.make" A9 f fd) (T:(TxtD K mg aa4 aa6 ab3 aa9 aa1 ab0 aa3)) (ac5:‹7› "check_name" 2 ["name"] (gK aa4)) (ad8:‹8› aa3 "count_step" 1 ["self"] (fB aa3 aa9)):‹6› 3 f fd ["self","name"] (oB aa3 aa4 ab3 aa9):=by
 refine F.okX x6 (fun vs H Q E h=>?_) (fun cdv A outer s H vs Q E hr h=>?_)
 ·obtain⟨dk,df,kvs,D,v,d,rfl,_⟩:=h
  rfl
 ·obtain⟨dk,df,kvs,D,v,d,rfl,hD,hd,hn,hl,qb,q⟩:=h
  refine⟨_,@aA _ _ _ _ _ (aT (bF ac5 ‹11› bO (aD (pv 1) aB))) (@aA _ _ _ _ _ (@bG _ _ _ _ _ _ _ _ (@tR _ _ _ _ _ _ (@Eh _ _ _ _ _ (hu1 hr.units) ‹17› ‹26›) ⋯) (@aE _ _ _ (@dM _ _ _ _ _ _ _ _ _ _ fG (by rfl) T.ap1 (by rfl) T.bu8 (@aP _ _ _ _ _ _ _ (@cW _ _ _ _) (@aB _)) ⋯ ⋯ ⋯)) (@aR _)) (@aA _ _ _ _ _ (aT (eJ ad8 T.cl ‹11› bO (pv 0))) (@aE _ _ _ (@i5 _ _ _ _ _ _ _ _ _ (hu1 hr.units) ‹26› ‹17› (@jF _ _ _ _ (@aB _)) (by rfl))))),?_⟩
  refine⟨_,rfl,v,d,rfl,hd,hn,fun hw H1 S1=>?_,qb⟩
  obtain⟨n,rfl⟩:=zJ hw
  obtain⟨qt,q2⟩:=q n rfl hw
  have ev:v = .str n:=by simpa only[Den] using hd
  subst ev
  have hD1:=hD.same S1
  obtain⟨dx,h1⟩:=hD1.self
  refine⟨_,rfl,_,rfl,dk,_,dx,_,_,rfl,h1,T.cl,T.ae3,rfl,df,_,rfl,fN.k (k:=Sum.inr n) hD1.files,_,rfl,?_⟩
  have hv:=hD1.rel.val (n:=n)
  cases he:aO D.fs n with
  | some bs=>
   rw[he]at hv
   obtain⟨v,hv1,_⟩:=hv
   rw[hv1]
   exact aX ⟨(by show 1<=sizeLine; decide),qt bs he H1 S1⟩
  | none=>
   rw[he]at hv
   have hv:dS kvs (Sum.inr n)=none:=hv
   rw[hv]
   refine bE ?_
   refine cH rfl ?_
   obtain⟨qs,q3⟩:=q2 he
   refine⟨_,rfl,dk,dx,_,rfl,h1,rfl,dk,df,kvs,D,rfl,hD1,fun D1 hs H2 f2 hD2=>?_,fun hs=>qs hs H1 S1⟩
   refine⟨(by show 0<=sizeLine; decide),fun l hl3=>?_⟩
   have S3:=aI (o:=.lst []) hl3
   generalize eH3:upd H2 l (.lst [])=H3 at S3 ⊢
   have g3:H3 l=some (.lst []):=by rw[<- eH3]; exact aC
   have hD3:=hD2.same S3
   obtain⟨dx3,h13⟩:=hD3.self
   have hkl:kvs.length<sizeLine:=by rw[hD.rel.len]; exact lt_trans hl (by decide)
   refine⟨_,rfl,dk,_,dx3,_,_,rfl,h13,T.cl,T.ae3,rfl,_,rfl,df,_,rfl,rP.k (k:=Sum.inr n) hD3.files hkl,?_⟩
   have epk:iB kvs (Sum.inr n) (V.ref l)=kvs++[(Sum.inr n,V.ref l)]:=EY _ hv
   rw[epk]
   obtain⟨o1,o2,o3⟩:=oX hD3
   have nlm:V.ref l ∉ kvs.map (·.2):=fun hm=>by
    have:∀ {fs:List (Str × List Int)} {kvs:List (Key × V)},FsR H2 fs kvs->V.ref l∈kvs.map (·.2)->H2 l≠none:=by
     intro fs
     induction fs with
     | nil=>
      intro kvs hr hb
      cases kvs with
      | nil=>simp at hb
      | cons _ _=>exact hr.elim
     | cons p fs ih=>
      intro kvs hr hb
      cases kvs with
      | nil=>exact hr.elim
      | cons q kvs=>
       obtain⟨_,⟨l',e,g⟩,h3⟩:=hr
       rw[map_cons,mem_cons]at hb
       rcases hb with hb | hb
       ·rw[e]at hb
        cases hb
        rw[g]
        exact fun z=>by cases z
       ·exact ih h3 hb
    exact this hD2.rel hm hl3
   have ldf:l≠df:=fun z=>by rw[z,hD2.files]at hl3; cases hl3
   have hl0:H l=none:=by
    cases e:H l with
    | none=>rfl
    | some o=>
     have ldk:l≠dk:=fun z=>by
      obtain⟨dx2,h12⟩:=hD2.self
      rw[z,h12]at hl3
      cases hl3
     rw[f2 l o (S1 _ _ e) ldk]at hl3
     cases hl3
   refine q3 D1 hs (kvs++[(Sum.inr n,V.ref l)]) _ (fun b o e nb=>?_) (fun b hb=>?_) ⟨⟨dx3,by rw[aF o1]; exact h13⟩,aC,?_,?_,?_⟩
   ·have nb1:b≠dk:=fun z=>nb (.inl z)
    have nb2:b≠df:=fun z=>nb (.inr (.inl z))
    rw[aF nb2]
    exact S3 _ _ (f2 b o (S1 _ _ e) nb1)
   ·rcases hb with hb | hb | hb
    ·exact .inl (.inl hb)
    ·exact .inl (.inr (.inl hb))
    ·rw[map_append,mem_append]at hb
     rcases hb with hb | hb
     ·exact .inl (.inr (.inr hb))
     ·have:b=l:=by simpa using hb
      subst this
      exact .inr hl0
   ·refine(hD3.rel.same fun b o e m=>?_).snoc ⟨l,rfl,by rw[aF ldf]; exact g3⟩
    rw[aF (fun z=>by rw[z]at m; exact o3 m)]
    exact e
   ·rw[map_append,List.nodup_append]
    refine⟨hD.nd,by simp,?_⟩
    intro a ha b hb
    have:b=V.ref l:=by simpa using hb
    subst this
    rintro rfl
    exact nlm ha
   ·show ((D1.fs++[(n,([]:List Int))]).map (·.1)).Nodup
    rw[map_append,List.nodup_append,n6 hs]
    refine⟨hD.kn,by simp,?_⟩
    intro a ha b hb
    have:b=n:=by simpa using hb
    subst this
    rintro rfl
    exact DL he ha
end
noncomputable abbrev EF:Stmt:=bL (top 59) 3
noncomputable abbrev Gq:Stmt:=bL (top 59) 4
noncomputable def dY (fs:List (Str × List Int)) (n:Str) (e:List Int):List (Str × List Int):=fs.map fun p=>if p.1=n then (p.1,e) else p
theorem mP (fs:List (Str × List Int)) (n:Str) (e:List Int):(dY fs n e).map (·.1)=fs.map (·.1):=by
 unfold dY
 rw[map_map]
 apply map_congr_left
 intro p _
 show (if p.1=n then (p.1,e) else p).1=p.1
 split <;> rfl
theorem CC {fs:List (Str × List Int)} {n:Str} {e:List Int} (h:n ∉ fs.map (·.1)):dY fs n e=fs:=by
 unfold dY
 have:fs.map (fun p=>if p.1=n then (p.1,e) else p)=fs.map id:=by
  apply map_congr_left
  intro p hp
  rw[if_neg (fun z=>h (by rw[<- z]; exact mem_map_of_mem hp))]
  rfl
 rw[this,List.map_id]
theorem vY {fs:List (Str × List Int)} {n:Str} {e bs:List Int} (h:aO fs n=some bs):aO (dY fs n e) n=some e:=by
 induction fs with
 | nil=>cases h
 | cons p fs ih=>
  unfold dY
  rw[map_cons]
  by_cases z:p.1=n
  ·rw[if_pos z]
   simp [aO,z]
  ·rw[if_neg z]
   have h':aO fs n=some bs:=by simpa [aO,z] using h
   have:=ih h'
   unfold dY at this
   simpa [aO,z] using this
theorem B5 {kvs:List (Key × V)} {k:Key} {v:V} (h:dS kvs k=some v):v∈kvs.map (·.2):=by
 unfold dS at h
 rw[Option.map_eq_some_iff]at h
 obtain⟨p,hp,rfl⟩:=h
 exact mem_map_of_mem (List.mem_of_find?_eq_some hp)
theorem FsR.wr {H:Hp} {n:Str} {l:Addr} {e:List Int}:∀ {fs:List (Str × List Int)} {kvs:List (Key × V)},FsR H fs kvs->(kvs.map (·.2)).Nodup->(fs.map (·.1)).Nodup->dS kvs (Sum.inr n)=some (.ref l)->FsR (upd H l (.lst (e.map V.int))) (dY fs n e) kvs
 | [],[],_,_,_,h=>by cases h
 | p::fs,q::kvs,h,nd,kn,hv=>by
  obtain⟨h1,⟨l',e',g⟩,h3⟩:=h
  rw[map_cons,nodup_cons]at nd kn
  by_cases z:p.1=n
  ·have e1:dS (q::kvs) (Sum.inr n)=some q.2:=iH (by rw[h1,z])
   rw[e1]at hv
   have hq:q.2=V.ref l:=Option.some.inj hv
   have es:dY (p::fs) n e=(p.1,e)::fs:=by
    show (if p.1=n then (p.1,e) else p)::dY fs n e=_
    rw[if_pos z,CC (by rw[<- z]; exact kn.1)]
   rw[es]
   refine⟨h1,⟨l,hq,aC⟩,h3.same fun b o eb m=>?_⟩
   rw[aF (fun y=>by rw[y,<- hq]at m; exact nd.1 m)]
   exact eb
  ·have e1:dS (q::kvs) (Sum.inr n)=dS kvs (Sum.inr n):=iI (by rw[h1,Bm]; exact z)
   rw[e1]at hv
   have es:dY (p::fs) n e=p::dY fs n e:=by
    show (if p.1=n then (p.1,e) else p)::dY fs n e=_
    rw[if_neg z]
   rw[es]
   have nl:l'≠l:=fun y=>by
    subst y
    exact nd.1 (by rw[e']; exact B5 hv)
   exact⟨h1,⟨l',e',by rw[aF nl]; exact g⟩,FsR.wr h3 nd.2 kn.2 hv⟩
 | [],_::_,h,_,_,_=>h.elim
 | _::_,[],h,_,_,_=>h.elim
theorem Dl {H:Hp} {d:PyData} {v:V} (hd:Den H d v) (hb:cD d=true):∃ a bs,d = .tuple bs/\v = .ref a/\H a=some (.tup ((a9 d).map V.int))/\(a9 d).length=bs.length:=by
 cases d with
 | tuple bs=>
  simp only[Den]at hd
  obtain⟨a,ys,rfl,ha,hbs⟩:=hd
  have ei:=mH hbs hb
  subst ei
  exact⟨a,bs,rfl,rfl,ha,length_map _⟩
 | _=>exact absurd hb (by simp [cD])
noncomputable def rM (n:Str):Dk->List Int->Dk × Bool
 | D,[]=>(D,true)
 | D,b::bs=>match iJ D with
  | none=>(D,false)
  | some D1=>rM n ⟨dY D1.fs n ((aO D1.fs n).getD []++[b]),D1.done,D1.left⟩ bs
def pK (C aa4 aa6 aa1 aa9:Addr):Sp:=fun vs H Q E=>∃ (dk df:Addr) (kvs:List (Key × V)) (D:Dk) (v v2:V) (d d2:PyData),vs=[.ref dk,v,v2]/\DiskAt C H dk df kvs D/\Den H d v/\nU d/\Den H d2 v2/\(∀ bs,d2 = .tuple bs->bs.length<=100000)/\(∀ n bs,aO D.fs n=some bs->bs.length<=100000)/\
 (dD cC 8 d=false->∀ H',aG H H'->E (.ref aa4) none H')/\(∀ n,d = .str n->dD cC 8 d=true->(aO D.fs n=none->∀ H',aG H H'->E (.ref aa6) none H')/\
  (∀ bs,aO D.fs n=some bs->(cD d2=false->∀ H',aG H H'->E (.ref aa1) none H')/\(cD d2=true->∀ H',rN dk df kvs H H'->DiskAt C H' dk df kvs (rM n D (a9 d2)).1->((rM n D (a9 d2)).2=true->Q .non H')/\((rM n D (a9 d2)).2=false->E (.ref aa9) none H'))))
section
variable {P:Program} {w:World} {K:PySem.W.Frag} {mg:Str->Option Value} {base:Heap} {aa4 aa6 ab3 aa9 aa1 ab0 aa3:Addr}
theorem x8:FnScope ["self","name"] ["self","name"] (aH BB):=‹0›
theorem GH {f:Addr} {fd:FuncData} (F:Fun K "drop" "Disk.drop" BB f fd) (T:(TxtD K mg aa4 aa6 ab3 aa9 aa1 ab0 aa3)) (ac2:(Method P w K mg base aa3 "check_file" 3 ["self", "name"] (jA aa3 aa4 aa6))) (ad8:‹8› aa3 "count_step" 1 ["self"] (fB aa3 aa9)):‹6› 4 f fd ["self","name"] (oF aa3 aa4 aa6 aa9):=by
 refine F.okX x8 (fun vs H Q E h=>?_) (fun cdv A outer s H vs Q E hr h=>?_)
 ·obtain⟨dk,df,kvs,D,v,d,rfl,_⟩:=h
  rfl
 ·obtain⟨dk,df,kvs,D,v,d,rfl,hD,hd,hn,qb,q⟩:=h
  refine⟨_,@aA _ _ _ _ _ (aT (cF ac2 T.cl ‹11› bO (pv 0) (aD (pv 1) aB))) (@aA _ _ _ _ _ (aT (eJ ad8 T.cl ‹11› bO (pv 0))) (@aE _ _ _ (aT (nT K PySem.F.plainAttrs_dict PySem.F.slot_dict_pop PySem.F.type_dict_pop yS (dH (pv 0) (by rfl)) (aD (pv 1) aB))))),?_⟩
  obtain⟨dx,h1⟩:=hD.self
  refine⟨_,rfl,dk,dx,_,rfl,h1,rfl,_,rfl,dk,df,kvs,D,v,d,rfl,hD,hd,hn,qb,fun n en hw=>?_⟩
  obtain⟨qm,q2⟩:=q n en hw
  subst en
  have ev:v = .str n:=by simpa only[Den] using hd
  subst ev
  refine⟨qm,fun bs hbs H1 S1=>?_⟩
  obtain⟨qs,q3⟩:=q2 bs hbs
  have hD1:=hD.same S1
  refine⟨_,rfl,dk,dx,_,rfl,S1 _ _ h1,rfl,dk,df,kvs,D,rfl,hD1,fun D1 hs H2 f2 hD2=>?_,fun hs=>qs hs H1 S1⟩
  obtain⟨dx2,h12⟩:=hD2.self
  have hv:=hD2.rel.val (n:=n)
  rw[n6 hs,hbs]at hv
  obtain⟨v,hv1,_⟩:=hv
  refine⟨_,rfl,dk,_,dx2,_,_,rfl,h12,T.cl,T.ae3,rfl,.inr (.inr (.inl ⟨rfl,.inl ⟨kvs,hD2.files⟩⟩)),_,rfl,df,kvs,Sum.inr n,_,rfl,rfl,hD2.files,hv1,?_⟩
  obtain⟨o1,o2,o3⟩:=oX hD2
  have sub:(hJ kvs (Sum.inr n)).Sublist kvs:=List.filter_sublist
  have subf:(fY D1.fs n).Sublist D1.fs:=List.filter_sublist
  refine q3 D1 hs (hJ kvs (Sum.inr n)) _ (fun b o e nb=>?_) (fun b hb=>?_) ⟨⟨dx2,by rw[aF o1]; exact h12⟩,aC,?_,?_,?_⟩
  ·rw[aF (fun z=>nb (.inr (.inl z)))]
   exact f2 b o (S1 _ _ e) (fun z=>nb (.inl z))
  ·rcases hb with hb | hb | hb
   ·exact .inl (.inl hb)
   ·exact .inl (.inr (.inl hb))
   ·exact .inl (.inr (.inr ((sub.map _).subset hb)))
  ·refine(hD2.rel.drop (n:=n)).same fun b o e m=>?_
   rw[aF (fun z=>by rw[z]at m; exact o3 ((sub.map _).subset m))]
   exact e
  ·exact hD2.nd.sublist (sub.map _)
  ·exact hD2.kn.sublist (subf.map _)
theorem qY:FnScope ["self","name","some","one"] ["self","name","some"] (aH EF):=‹0›
theorem HS {f:Addr} {fd:FuncData} (F:Fun K "add" "Disk.add" EF f fd) (T:(TxtD K mg aa4 aa6 ab3 aa9 aa1 ab0 aa3)) (ac1:‹7› "is_bytes" 2 ["thing"] gS) (ac2:(Method P w K mg base aa3 "check_file" 3 ["self", "name"] (jA aa3 aa4 aa6))) (ad8:‹8› aa3 "count_step" 1 ["self"] (fB aa3 aa9)):‹6› 4 f fd ["self","name","some"] (pK aa3 aa4 aa6 aa1 aa9):=by
 refine F.okX qY (fun vs H Q E h=>?_) (fun cdv A outer s H vs Q E hr h=>?_)
 ·obtain⟨dk,df,kvs,D,v,v2,d,d2,rfl,_⟩:=h
  rfl
 ·obtain⟨dk,df,kvs,D,v,v2,d,d2,rfl,hD,hd,hn,hd2,hz2,hzf,qb,q⟩:=h
  refine⟨_,@aA _ _ _ _ _ (aT (cF ac2 T.cl ‹11› bO (pv 0) (aD (pv 1) aB))) (@aA _ _ _ _ _ (@bG _ _ _ _ _ _ _ _ (@cP _ _ _ _ (@dG _ _ _ (@bF _ _ _ _ _ _ _ _ _ _ _ ac1 ‹11› a8 (@aD _ _ _ _ _ _ ‹20› (@aB _)) ⋯ ⋯ ⋯ ⋯) ⋯)) (@aE _ _ _ (@dM _ _ _ _ _ _ _ _ _ _ fG (by rfl) T.af2 (by rfl) T.bc2 (@aP _ _ _ _ _ _ _ (@cW _ _ _ _) (@aB _)) ⋯ ⋯ ⋯)) (@aR _)) (@aE _ _ _ (@fQ _ _ _ _ _ _ _ _ (m6 eM) (by rfl) (@CI _ K _ _ _ ‹20› ⋯) (@bI _ _ (3) _ qY.nd (by rfl) (by first | exact Or.inl (by rfl) | exact Or.inr (by rfl)) ⋯) (@aA _ _ _ _ _ (aT (eJ ad8 T.cl ‹11› bO (pv 0))) (@aE _ _ _ (aT (nT K PySem.F.plainAttrs_list PySem.F.slot_list_append PySem.F.type_list_append kA (i6 (hu1 hr.units) (dH (pv 0) (by rfl)) (pv 1) (fun _ _=>rfl)) (aD (pv 3) aB))))) ⋯))),?_⟩
  obtain⟨dx,h1⟩:=hD.self
  refine⟨_,rfl,dk,dx,_,rfl,h1,rfl,_,rfl,dk,df,kvs,D,v,d,rfl,hD,hd,hn,qb,fun n en hw=>?_⟩
  obtain⟨qm,q2⟩:=q n en hw
  subst en
  have ev:v = .str n:=by simpa only[Den] using hd
  subst ev
  refine⟨qm,fun bs hbs H1 S1=>?_⟩
  obtain⟨qr,q3⟩:=q2 bs hbs
  refine⟨_,rfl,v2,d2,rfl,hd2.same S1,fun ds e=>le_trans (hz2 ds e) (by decide),fun H2 S2=>⟨_,rfl,?_⟩⟩
  have S02:aG H H2:=S1.trans S2
  cases hb:cD d2 with
  | false=>exact aX ⟨(by show 1<=sizeLine; decide),qr hb H2 S02⟩
  | true=>
  refine bE ?_
  refine cH rfl ?_
  have q4:=q3 hb
  have hD2:=hD.same S02
  obtain⟨a2,bs2,rfl,rfl,ga2,l2⟩:=Dl hd2 hb
  have z2:=hz2 bs2 rfl
  have zf:=hzf n bs hbs
  generalize a9 (.tuple bs2)=ns at ga2 l2 q4
  have ga:H2 a2=some (.tup (ns.map V.int)):=S02 _ _ ga2
  refine⟨_,rfl,a2,rfl,⟨_,SqT.of ga⟩,?_⟩
  have sq0:SqT K (fun a=>if a=a2 then some (.tup (ns.map V.int)) else none) a2 (ns.map V.int):=SqT.of (if_pos rfl)
  have lm:(ns.map V.int).length=ns.length:=length_map _
  have na:¬ own dk df kvs a2:=by
   rintro (z | z | z)
   ·obtain⟨dx2,h12⟩:=hD2.self
    rw[z,h12]at ga
    cases ga
   ·rw[z,hD2.files]at ga
    cases ga
   ·have key:∀ {fs:List (Str × List Int)} {kvs:List (Key × V)},FsR H2 fs kvs->V.ref a2∈kvs.map (·.2)->∃ xs,H2 a2=some (.lst xs):=by
     intro fs
     induction fs with
     | nil=>
      intro kvs hr hb
      cases kvs with
      | nil=>simp at hb
      | cons _ _=>exact hr.elim
     | cons p fs ih=>
      intro kvs hr hb
      cases kvs with
      | nil=>exact hr.elim
      | cons q kvs=>
       obtain⟨_,⟨l',e,g⟩,h3⟩:=hr
       rw[map_cons,mem_cons]at hb
       rcases hb with hb | hb
       ·rw[e]at hb
        cases hb
        exact⟨_,g⟩
       ·exact ih h3 hb
    obtain⟨xs,e⟩:=key hD2.rel z
    rw[ga]at e
    cases e
  refine kD (H0:=fun a=>if a=a2 then some (.tup (ns.map V.int)) else none) (CA (K:=K) sq0) (fun i σ H'=>H' a2=some (.tup (ns.map V.int))/\rN dk df kvs H H'/\∃ Di bsi z3,DiskAt aa3 H' dk df kvs Di/\aO Di.fs n=some bsi/\bsi.length<=bs.length+i/\rM n D ns=rM n Di (ns.drop i)/\σ = [some (.ref dk),some (.str n),some (.ref a2),z3]) ?i0 ?kp ?_ ?_
  case i0=>exact⟨ga,fun b o e _=>S02 b o e,D,bs,none,hD2,hbs,le_refl _,rfl,rfl⟩
  case kp=>
   intro i σ H' h b o e
   by_cases z:b=a2
   ·subst z
    have e:some (HO.tup (ns.map V.int))=some o:=by simpa using e
    rw[<- e]
    exact h.1
   ·have e:none=some o:=by simpa [z] using e
    cases e
  ·rintro i x σ H5 H6 hi ⟨g5,f5,Di,bsi,z3,hDi,hlk,hlen,hadd,rfl⟩ s6 hx
   rw[lm]at hi
   rw[getElem?_map,getElem?_eq_getElem hi]at hx
   cases hx
   rw[drop_eq_getElem_cons hi]at hadd
   have hD6:=hDi.same s6
   obtain⟨dx6,h16⟩:=hD6.self
   have f6:rN dk df kvs H H6:=fun b o e nb=>s6 _ _ (f5 b o e nb)
   refine⟨_,rfl,dk,dx6,_,rfl,h16,rfl,dk,df,kvs,Di,rfl,hD6,fun D1 hs H7 f7 hD7=>?_,fun hs=>?_⟩
   ·obtain⟨dx7,h17⟩:=hD7.self
    have hv:=hD7.rel.val (n:=n)
    rw[n6 hs,hlk]at hv
    obtain⟨v7,hv1,l,rfl,gl⟩:=hv
    have dg:fN H7 df (.str n) (some (.ref l)):=by
     have:=fN.k (k:=Sum.inr n) hD7.files
     rw[hv1]at this
     exact this
    refine⟨_,rfl,dk,_,dx7,_,_,rfl,h17,T.cl,T.ae3,rfl,_,rfl,df,_,rfl,dg,.inl ⟨rfl,_,SqL.of gl⟩,_,rfl,l,_,_,rfl,rfl,gl,?_,?_⟩
    ·rw[length_map]
     exact Nat.lt_of_le_of_lt (show _<=200000 by omega) (by decide)
    have hlm:=B5 hv1
    have em:bsi.map V.int++[V.int ns[i]]=(bsi++[ns[i]]).map V.int:=by rw[map_append]; rfl
    rw[em]
    obtain⟨o1,o2,o3⟩:=oX hD7
    have nl:a2≠l:=fun z=>na (.inr (.inr (by rw[z]; exact hlm)))
    have nk:a2≠dk:=fun z=>na (.inl z)
    refine⟨?_,fun b o e nb=>?_,⟨dY D1.fs n (bsi++[ns[i]]),D1.done,D1.left⟩,bsi++[ns[i]],_,⟨⟨dx7,?_⟩,?_,hD7.rel.wr hD7.nd hD7.kn hv1,hD7.nd,?_⟩,?_,?_,?_,rfl⟩
    ·rw[aF nl]
     exact f7 _ _ (s6 _ _ g5) nk
    ·rw[aF (fun z=>nb (.inr (.inr (by rw[z]; exact hlm))))]
     exact f7 _ _ (f6 b o e nb) (fun z=>nb (.inl z))
    ·rw[aF (fun z=>by rw[<- z]at hlm; exact o2 hlm)]
     exact h17
    ·rw[aF (fun z=>by rw[<- z]at hlm; exact o3 hlm)]
     exact hD7.files
    ·show ((dY D1.fs n (bsi++[ns[i]])).map (·.1)).Nodup
     rw[mP]
     exact hD7.kn
    ·show aO (dY D1.fs n (bsi++[ns[i]])) n=_
     rw[n6 hs]
     exact vY hlk
    ·rw[length_append]
     show bsi.length+1<=_
     omega
    ·rw[hadd]
     show (match iJ Di with | none=>(Di,false) | some D1=>rM n ⟨dY D1.fs n ((aO D1.fs n).getD []++[ns[i]]),D1.done,D1.left⟩ (ns.drop (i+1)))=_
     rw[hs]
     dsimp only
     rw[n6 hs,hlk]
     rfl
   ·have e1:rM n D ns=(Di,false):=by
     rw[hadd]
     show (match iJ Di with | none=>(Di,false) | some D1=>rM n ⟨dY D1.fs n ((aO D1.fs n).getD []++[ns[i]]),D1.done,D1.left⟩ (ns.drop (i+1)))=_
     rw[hs]
    rw[e1]at q4
    exact(q4 H6 f6 hD6).2 rfl
  ·rintro σ H5 ⟨g5,f5,Di,bsi,z3,hDi,hlk,hlen,hadd,rfl⟩
   rw[lm,drop_of_length_le (le_refl _)]at hadd
   have e1:rM n D ns=(Di,true):=hadd
   rw[e1]at q4
   exact(q4 H5 f5 hDi).1 rfl
end
theorem o7 {H:Hp}:∀ {fs:List (Str × List Int)} {kvs:List (Key × V)},FsR H fs kvs->∀ {b:Addr},V.ref b∈kvs.map (·.2)->∃ xs,H b=some (.lst xs)
 | [],[],_,b,h=>by simp at h
 | p::fs,q::kvs,hr,b,hb=>by
  obtain⟨_,⟨l',e,g⟩,h3⟩:=hr
  rw[map_cons,mem_cons]at hb
  rcases hb with hb | hb
  ·rw[e]at hb
   cases hb
   exact⟨_,g⟩
  ·exact o7 h3 hb
 | [],_::_,h,_,_=>h.elim
 | _::_,[],h,_,_=>h.elim
section
variable {P:Program} {w:World} {K:PySem.W.Frag} {mg:Str->Option Value} {base:Heap} {aa4 aa6 ab3 aa9 aa1 ab0 aa3:Addr}
end
structure Ad where
 kinds:Addr
 badRow:Addr
 broken:Addr
 book:Addr
 badName:Addr
 missing:Addr
 there:Addr
 stopped:Addr
 badNumber:Addr
 disk:Addr
 queue:Addr
 badSettings:Addr
 badBody:Addr
 badHand:Addr
 notHeld:Addr
structure TxtQ (K:PySem.W.Frag) (mg:Str->Option Value) (A:Ad):Prop where
 ae2:mg "len" = none
 ao8:mg "int" = none
 ac9:mg "sorted" = none
 ar4:mg "sum" = none
 ad7:cU K A.broken=true
 ap8:mg "Broken" = some (.ref A.broken)
 ad4:Cls K A.book
 ab6:Cls K A.disk
 aa0:Cls K A.queue
 bz2:mg "min" = none
 au6:∃ t,mg "LARGEST_MOST" = some (.int 2000 t)
 au7:∃ t,mg "LONGEST_HOLD" = some (.int 99 t)
 as0:∃ t,mg "HIGHEST_TRIES" = some (.int 9 t)
 bc6:∃ t,mg "HAND_SIGNS" = some (.str "abcdefghijklmnopqrstuvwxyz" t)
 au8:∃ t,mg "LONGEST_HAND" = some (.int 6 t)
 ac7:∃ t,mg "HIGHEST_NUMBER" = some (.int 999999 t)
 af9:∃ t,mg "HIGHEST_TIMES" = some (.int 9 t)
 af0:cU K A.badSettings=true
 ax8:mg "BadSettings" = some (.ref A.badSettings)
 aj2:cU K A.badBody=true
 bo0:mg "BadBody" = some (.ref A.badBody)
 aj3:cU K A.badHand=true
 bo1:mg "BadHand" = some (.ref A.badHand)
 ag8:cU K A.notHeld=true
 ax1:mg "NotHeld" = some (.ref A.notHeld)
 ab5:cK K A.book "upcoming"
 ak9:cK K A.queue "disk"
 bo2:cK K A.queue "most"
 bx6:cK K A.queue "hold"
 bk5:cK K A.queue "tries"
 ae8:cK K A.queue "book"
 al0:cK K A.queue "first"
 ai3:cK K A.queue "last"
 aj4:cK K A.queue "writing"
 af8:cK K A.queue "holders"
 bu5:cK K A.queue "now"
 ab8:mg "isinstance" = none
 ak4:mg "tuple" = none
 aj8:mg "enumerate" = none
 ah7:mg "range" = none
 ar8:mg "list" = none
 ak6:∃ t,mg "LARGEST_DEAL" = some (.int 9 t)
 ad3:cU K A.badNumber=true
 ap5:mg "BadNumber" = some (.ref A.badNumber)
noncomputable def aQ (n:Int):Str:=("s" : Str)++Str.ofString (toString n)
noncomputable abbrev iO:Stmt:=top 45
noncomputable abbrev oM:Stmt:=top 46
def cZ (n:Int):Prop:=0<=n/\n<10000000
theorem oZ {n:Int} (h:cZ n):1<=(Str.ofString (toString n)).length/\(Str.ofString (toString n)).length<=7:=⟨PySem.W.KLn.one_le h.1,PyProof.Rows.toString_length_le h.1 (by decide) h.2⟩
theorem E8 (m:Nat):Builtin.Str.strSliceIndices (some 1) none 1 (m+1)=(List.range m).map (· + 1):=by
 have e1:Builtin.Str.strSliceIndices (some 1) none 1 (m+1)=sliceRange (max 0 (min 1 ((m+1:Nat):Int))) ((m+1:Nat):Int) 1:=rfl
 have e2:(max 0 (min 1 ((m+1:Nat):Int)):Int)=1:=by omega
 rw[e1,e2]
 unfold sliceRange
 simp only[show (1:Int) > 0 by decide,if_true]
 have e3:(if (1:Int)<((m+1:Nat):Int) then (((m+1:Nat):Int) - 1+1 - 1) / 1 else 0)=(m:Int):=by
  split <;> omega
 rw[e3,toNat_natCast]
 apply map_congr_left
 intro k _
 omega
theorem Ax (c:Nat):∀ cs:List Nat,((List.range cs.length).map (· + 1)).filterMap (fun i=>(c::cs)[i]?)=cs
 | cs=>by
  rw[List.filterMap_map]
  have:((fun i=>(c::cs)[i]?) ∘ fun x=>x+1)=fun i=>cs[i]?:=by
   funext i
   rfl
  rw[this]
  apply ext_getElem?
  intro i
  have key:∀ (l:List Nat) (k:Nat),k<=l.length->(List.range k).filterMap (fun i=>l[i]?)=l.take k:=by
   intro l k
   induction k with
   | zero=>intro _; rfl
   | succ k ih=>
    intro hk
    rw[range_succ,List.filterMap_append,ih (by omega),take_succ,getElem?_eq_getElem (by omega)]
    simp [getElem?_eq_getElem (show k<l.length by omega)]
  rw[key cs cs.length (le_refl _),take_length]
theorem A0 {x:Str} {c:Nat} {cs:List Nat} (h:x.cps.toList=c::cs):Txt.slice x (some 1) none=⟨cs.toArray⟩:=by
 have hl:x.length=cs.length+1:=by
  show x.cps.size=_
  rw[<- length_toList,h]
  rfl
 unfold Txt.slice
 rw[hl,E8,if_neg (by simp)]
 have e:(fun i:Nat=>x.cps[i]?)=fun i=>(c::cs)[i]?:=by
  funext i
  rw[<- getElem?_toList,h]
 rw[e,Ax]
theorem BY {n:Int} (h:0<=n):∀ c∈(Str.ofString (toString n)).cps.toList,48<=c/\c<=57:=by
 obtain⟨m,rfl⟩:=Int.eq_ofNat_of_zero_le h
 intro c hc
 rw[PySem.W.KIN.signs_num]at hc
 obtain⟨ch,hch,e⟩:=mem_map.mp hc
 have r:=PyProof.Rows.digit_range (Nat.isDigit_of_mem_toDigits (by decide) (by decide) hch)
 rw[<- e]
 exact r
theorem CF (n:Int):(aQ n).cps.toList=115::(Str.ofString (toString n)).cps.toList:=by
 show ((("s" : Str)).cps++(Str.ofString (toString n)).cps).toList=_
 rw[Array.toList_append]
 rfl
theorem mQ (n:Int):Txt.slice (aQ n) (some 1) none=Str.ofString (toString n):=by
 rw[A0 (CF n),Array.toArray_toList]
theorem xU {n:Int} (h:cZ n):(aQ n).length<=8:=by
 have:=(oZ h).2
 unfold aQ
 rw[strLen_append]
 show 1+_<=8
 omega
def hU:Sp:=fun vs H Q _=>∃ n:Int,vs=[.int n]/\cZ n/\Q (.str (aQ n)) H
section
variable {P:Program} {w:World} {K:PySem.W.Frag} {mg:Str->Option Value} {base:Heap} {A:Ad}
theorem rG:FnScope ["segment"] ["segment"] (aH iO):=‹0›
theorem rK {f:Addr} {fd:FuncData} (F:Fun K "segment_name" "segment_name" iO f fd):‹6› 1 f fd ["segment"] hU:=by
 refine F.okX rG (fun vs H Q E h=>?_) (fun cdv A outer s H vs Q E hr h=>?_)
 ·obtain⟨n,rfl,_⟩:=h
  rfl
 ·obtain⟨n,rfl,⟨h0,h1⟩,q⟩:=h
  refine⟨_,@aE _ _ _ (@bB _ _ _ _ (@pe_fw _ _ _ _ _ _ _ _ ‹16› ⋯)),?_⟩
  exact⟨_,rfl,n,rfl,h0,Int.lt_of_lt_of_le h1 (by decide),q⟩
end
noncomputable abbrev jD:Stmt:=top 47
theorem Ec {α β : Type} (f:α->β):∀ {ns:List α} {ts:List β},List.Perm ts (ns.map f)->∃ ms,List.Perm ms ns/\ts=ms.map f:=by
 intro ns
 induction ns with
 | nil=>
  intro ts h
  exact⟨[],List.Perm.refl _,List.Perm.eq_nil h⟩
 | cons n ns ih=>
  intro ts h
  have hm:f n∈ts:=h.mem_iff.mpr mem_cons_self
  obtain⟨a,b,rfl⟩:=List.append_of_mem hm
  have h1:List.Perm (f n::(a++b)) (f n::ns.map f):=List.perm_middle.symm.trans h
  obtain⟨ms,p,e⟩:=ih (List.perm_cons (f n) |>.mp h1)
  have el:ms=ms.take a.length++ms.drop a.length:=(take_append_drop _ _).symm
  have ea:a=(ms.take a.length).map f/\b=(ms.drop a.length).map f:=by
   have e2:=e
   rw[el,map_append]at e2
   refine List.append_inj e2 ?_
   rw[length_map,length_take]
   have:=congrArg List.length e
   rw[length_append,length_map]at this
   omega
  refine⟨ms.take a.length++n::ms.drop a.length,?_,?_⟩
  ·refine List.perm_middle.trans ?_
   rw[take_append_drop]
   exact p.cons n
  ·rw[map_append,map_cons,<- ea.1,<- ea.2]
section
variable {P:Program} {w:World} {K:PySem.W.Frag} {mg:Str->Option Value} {base:Heap} {A:Ad}
theorem lT:FnScope ["disk","segments"] ["disk"] (aH jD):=‹0›
end
noncomputable abbrev pR:Stmt:=top 48
section
variable {P:Program} {w:World} {K:PySem.W.Frag} {mg:Str->Option Value} {base:Heap} {A:Ad}
theorem dU:FnScope ["rows","many"] ["rows"] (aH pR):=‹0›
end
noncomputable abbrev v8:Stmt:=top 49
theorem vZ {n:Int} (h:cZ n):∀ c∈(aQ n).cps.toList,c=115\/(48<=c/\c<=57):=by
 intro c hc
 rw[CF]at hc
 rcases mem_cons.mp hc with z | z
 ·exact .inl z
 ·exact .inr (BY h.1 c z)
theorem jT {n:Int} (h:cZ n):dD cC 8 (.str (aQ n))=true:=by
 have h1:1<=(aQ n).length:=by
  have:=(oZ h).1
  unfold aQ
  rw[strLen_append]
  omega
 have h2:=xU h
 have hd:∀ c:Nat,c<58->48<=c->inS cC c=true:=by decide +kernel
 have hs:inS cC 115=true:=by decide +kernel
 show ((decide (1<=((aQ n).length:Int)) && decide (((aQ n).length:Int)<=8)) && (aQ n).cps.toList.all (inS cC))=true
 rw[decide_eq_true (by omega),decide_eq_true (by omega),Bool.true_and,Bool.true_and,all_eq_true]
 intro c hc
 rcases vZ h c hc with z | ⟨z1,z2⟩
 ·rw[z]; exact hs
 ·exact hd c (by omega) z1
theorem pN {n:Int} (h:cZ n):nU (.str (aQ n)):=by
 intro x e
 injection e with e
 subst e
 refine⟨le_trans (xU h) (by decide),?_⟩
 unfold o9
 rw[<- Array.all_toList,all_eq_true]
 intro c hc
 rcases vZ h c hc with z | ⟨z1,z2⟩ <;> exact decide_eq_true (by omega)
section
variable {P:Program} {w:World} {K:PySem.W.Frag} {mg:Str->Option Value} {base:Heap} {A:Ad}
end
noncomputable abbrev qC:Stmt:=top 50
theorem AQ {fs:List (Str × List Int)} {n:Str} (h:n∈fs.map (·.1)):∃ bs,aO fs n=some bs:=by
 unfold aO
 cases e:fs.find? fun p=>decide (p.1=n) with
 | none=>
  rw[find?_eq_none]at e
  rw[mem_map]at h
  obtain⟨p,hp,he⟩:=h
  exact absurd (decide_eq_true he) (e p hp)
 | some p=>exact⟨p.2,rfl⟩
section
variable {P:Program} {w:World} {K:PySem.W.Frag} {mg:Str->Option Value} {base:Heap} {A:Ad}
theorem iN:FnScope ["disk","segments","book","segment","row"] ["disk"] (aH qC):=‹0›
end
noncomputable abbrev gG:Stmt:=top 42
noncomputable abbrev kY:Stmt:=top 43
noncomputable abbrev kW:Stmt:=top 44
noncomputable def rD:Str:="abcdefghijklmnopqrstuvwxyz"
noncomputable def vW (d1 d2 d3:PyData):Bool:=bN 1 2000 d1 && (bN 0 99 d2 && bN 1 9 d3)
def fO (A:Ad):Sp:=fun vs H Q E=>∃ (v1 v2 v3:V) (d1 d2 d3:PyData),vs=[v1,v2,v3]/\Den H d1 v1/\Den H d2 v2/\Den H d3 v3/\(vW d1 d2 d3=true->Q .non H)/\(vW d1 d2 d3=false->E (.ref A.badSettings) none H)
def gM (A:Ad):Sp:=fun vs H Q E=>∃ (v:V) (d:PyData),vs=[v]/\Den H d v/\(∀ x,d = .str x->x.length<=1000/\o9 x=true)/\(dD rD 6 d=true->∀ H',aG H H'->Q .non H')/\(dD rD 6 d=false->∀ H',aG H H'->E (.ref A.badHand) none H')
def jB (A:Ad):Sp:=fun vs H Q E=>∃ (v:V) (d:PyData),vs=[v]/\Den H d v/\(∀ bs,d = .tuple bs->bs.length<=sizeLine)/\(aS (.tuple [.str "put",.int 0,d])=true->∀ H',aG H H'->Q .non H')/\(aS (.tuple [.str "put",.int 0,d])=false->∀ H',aG H H'->E (.ref A.badBody) none H')
section
variable {P:Program} {w:World} {K:PySem.W.Frag} {mg:Str->Option Value} {base:Heap} {A:Ad}
theorem oI:FnScope ["most","hold","tries"] ["most","hold","tries"] (aH gG):=‹0›
theorem oY {f:Addr} {fd:FuncData} (F:Fun K "check_settings" "check_settings" gG f fd) (T:TxtQ K mg A) (ab2:(Callee P w K mg base "is_number" 1 ["thing", "least", "most"] kP)):‹6› 2 f fd ["most","hold","tries"] (fO A):=by
 obtain⟨_,as1⟩:=T.au6
 obtain⟨_,as2⟩:=T.au7
 obtain⟨_,ap9⟩:=T.as0
 refine F.okX oI (fun vs H Q E h=>?_) (fun cdv A' outer s H vs Q E hr h=>?_)
 ·obtain⟨v1,v2,v3,d1,d2,d3,rfl,_⟩:=h
  rfl
 ·obtain⟨v1,v2,v3,d1,d2,d3,rfl,h1,h2,h3,q,qe⟩:=h
  refine⟨_,@aA _ _ _ _ _ (@bG _ _ _ _ _ _ _ _ (@cP _ _ _ _ (@dG _ _ _ (@bF _ _ _ _ _ _ _ _ _ _ _ ab2 ‹11› a8 (@aD _ _ _ _ _ _ ‹16› (@aP _ _ _ _ _ _ _ ‹18› (@aD _ _ _ _ _ _ (@bX _ _ (.int 2000) _ _ (by rfl) as1 ⟨_,rfl⟩ ⋯) (@aB _)))) ⋯ ⋯ ⋯ ⋯) ⋯)) (@aE _ _ _ (@dM _ _ _ _ _ _ _ _ _ _ fG (by rfl) T.af0 (by rfl) T.ax8 (@aP _ _ _ _ _ _ _ (@cW _ _ _ _) (@aB _)) ⋯ ⋯ ⋯)) (@aR _)) (@aA _ _ _ _ _ (@bG _ _ _ _ _ _ _ _ (@cP _ _ _ _ (@dG _ _ _ (@bF _ _ _ _ _ _ _ _ _ _ _ ab2 ‹11› a8 (@aD _ _ _ _ _ _ ‹17› (@aP _ _ _ _ _ _ _ ‹18› (@aD _ _ _ _ _ _ (@bX _ _ (.int 99) _ _ (by rfl) as2 ⟨_,rfl⟩ ⋯) (@aB _)))) ⋯ ⋯ ⋯ ⋯) ⋯)) (@aE _ _ _ (@dM _ _ _ _ _ _ _ _ _ _ fG (by rfl) T.af0 (by rfl) T.ax8 (@aP _ _ _ _ _ _ _ (@cW _ _ _ _) (@aB _)) ⋯ ⋯ ⋯)) (@aR _)) (@aE _ _ _ (@bG _ _ _ _ _ _ _ _ (@cP _ _ _ _ (@dG _ _ _ (@bF _ _ _ _ _ _ _ _ _ _ _ ab2 ‹11› a8 (@aD _ _ _ _ _ _ ‹20› (@aP _ _ _ _ _ _ _ ‹18› (@aD _ _ _ _ _ _ (@bX _ _ (.int 9) _ _ (by rfl) ap9 ⟨_,rfl⟩ ⋯) (@aB _)))) ⋯ ⋯ ⋯ ⋯) ⋯)) (@aE _ _ _ (@dM _ _ _ _ _ _ _ _ _ _ fG (by rfl) T.af0 (by rfl) T.ax8 (@aP _ _ _ _ _ _ _ (@cW _ _ _ _) (@aB _)) ⋯ ⋯ ⋯)) (@aR _)))),?_⟩
  unfold vW at q qe
  have one:(1:Nat)<=sizeLine:=by decide
  refine⟨_,rfl,v1,d1,1,2000,rfl,h1,_,rfl,?_⟩
  cases e1:bN 1 2000 d1 with
  | false=>
   rw[e1]at qe
   exact aX ⟨one,qe rfl⟩
  | true=>
  rw[e1]at q qe
  refine bE (cH rfl ?_)
  refine⟨_,rfl,v2,d2,0,99,rfl,h2,_,rfl,?_⟩
  cases e2:bN 0 99 d2 with
  | false=>
   rw[e2]at qe
   exact aX ⟨one,qe rfl⟩
  | true=>
  rw[e2]at q qe
  refine bE (cH rfl ?_)
  refine⟨_,rfl,v3,d3,1,9,rfl,h3,_,rfl,?_⟩
  cases e3:bN 1 9 d3 with
  | false=>
   rw[e3]at qe
   exact aX ⟨one,qe rfl⟩
  | true=>
  rw[e3]at q
  exact bE (q rfl)
theorem vC:FnScope ["hand"] ["hand"] (aH kW):=‹0›
theorem vK {f:Addr} {fd:FuncData} (F:Fun K "check_hand" "check_hand" kW f fd) (T:TxtQ K mg A) (af7:‹7› "is_word" 1 ["thing","signs","longest"] kO):‹6› 2 f fd ["hand"] (gM A):=by
 obtain⟨_,ay2⟩:=T.bc6
 obtain⟨_,as3⟩:=T.au8
 refine F.okX vC (fun vs H Q E h=>?_) (fun cdv A' outer s H vs Q E hr h=>?_)
 ·obtain⟨v,d,rfl,_⟩:=h
  rfl
 ·obtain⟨v,d,rfl,hd,hz,q,qe⟩:=h
  refine⟨_,@aE _ _ _ (@bG _ _ _ _ _ _ _ _ (@cP _ _ _ _ (@dG _ _ _ (@bF _ _ _ _ _ _ _ _ _ _ _ af7 ‹11› a8 (@aD _ _ _ _ _ _ ‹16› (@aD _ _ _ _ _ _ (@bX _ _ (.str "abcdefghijklmnopqrstuvwxyz") _ _ (by rfl) ay2 ⟨_,rfl⟩ ⋯) (@aD _ _ _ _ _ _ (@bX _ _ (.int 6) _ _ (by rfl) as3 ⟨_,rfl⟩ ⋯) (@aB _)))) ⋯ ⋯ ⋯ ⋯) ⋯)) (@aE _ _ _ (@dM _ _ _ _ _ _ _ _ _ _ fG (by rfl) T.aj3 (by rfl) T.bo1 (@aP _ _ _ _ _ _ _ (@cW _ _ _ _) (@aB _)) ⋯ ⋯ ⋯)) (@aR _)),?_⟩
  refine⟨_,rfl,v,d,rD,6,rfl,hd,hz,fun H1 S1=>⟨_,rfl,?_⟩⟩
  cases hb:dD rD 6 d with
  | false=>exact aX ⟨(by show 1<=sizeLine; decide),qe hb H1 S1⟩
  | true=>exact bE (q hb H1 S1)
theorem vD:FnScope ["body"] ["body"] (aH kY):=‹0›
theorem vM {f:Addr} {fd:FuncData} (F:Fun K "check_body" "check_body" kY f fd) (T:TxtQ K mg A) (ac8:‹7› "is_row" 3 ["thing"] jN):‹6› 4 f fd ["body"] (jB A):=by
 refine F.okX vD (fun vs H Q E h=>?_) (fun cdv A' outer s H vs Q E hr h=>?_)
 ·obtain⟨v,d,rfl,_⟩:=h
  rfl
 ·obtain⟨v,d,rfl,hd,hz,q,qe⟩:=h
  refine⟨_,@aE _ _ _ (@bG _ _ _ _ _ _ _ _ (@cP _ _ _ _ (@dG _ _ _ (@bF _ _ _ _ _ _ _ _ _ _ _ ac8 ‹11› a8 (@dN _ _ _ _ _ _ _ (@cB _ _ _ _ _ (@aP _ _ _ _ _ _ _ (@cW _ _ _ _) (@aP _ _ _ _ _ _ _ ‹18› (@aD _ _ _ _ _ _ ‹16› (@aB _))))) (@aB _)) ⋯ ⋯ ⋯ ⋯) ⋯)) (@aE _ _ _ (@dM _ _ _ _ _ _ _ _ _ _ fG (by rfl) T.aj2 (by rfl) T.bo0 (@aP _ _ _ _ _ _ _ (@cW _ _ _ _) (@aB _)) ⋯ ⋯ ⋯)) (@aR _)),?_⟩
  refine⟨_,rfl,bY,fun p hp=>?_⟩
  have S:=aI (o:=.tup [.str "put",.int 0,v]) hp
  refine⟨.ref p,.tuple [.str "put",.int 0,d],rfl,?_,fun k n bs e=>?_,fun H1 S1=>⟨_,rfl,?_⟩⟩
  ·simp only[Den,aV]
   exact⟨p,_,rfl,aC,_,_,rfl,rfl,_,_,rfl,rfl,_,_,rfl,hd.same S,rfl⟩
  ·injection e with e
   injection e with _ e
   injection e with _ e
   injection e with e _
   exact hz bs e
  cases hb:aS (.tuple [.str "put",.int 0,d]) with
  | false=>exact aX ⟨(by show 1<=sizeLine; decide),qe hb H1 (S.trans S1)⟩
  | true=>exact bE (q hb H1 (S.trans S1))
end
noncomputable abbrev lX:Stmt:=top 51
noncomputable def mkN (D:Dk) (n:Str):Dk:=⟨D.fs++[(n,[])],D.done+1,none⟩
noncomputable def Cc (D:Dk) (n:Str):Dk:=⟨fY D.fs n,D.done+1,none⟩
noncomputable def sS (D:Dk) (n:Str) (bs:List Int) (k:Nat):Dk:=⟨dY D.fs n bs,D.done+(k:Int),none⟩
theorem jI {D:Dk} (h:D.left=none):iJ D=some ⟨D.fs,D.done+1,none⟩:=by
 unfold iJ
 rw[h]
theorem D9 (fs:List (Str × List Int)) (n:Str) (a b:List Int):dY (dY fs n a) n b=dY fs n b:=by
 unfold dY
 rw[map_map]
 apply map_congr_left
 intro p _
 by_cases z:p.1=n
 ·simp [z]
 ·simp [z]
theorem vX {n:Str} {bs:List Int}:∀ {fs:List (Str × List Int)},(fs.map (·.1)).Nodup->aO fs n=some bs->dY fs n bs=fs
 | [],_,_=>rfl
 | p::fs,hn,h=>by
  rw[map_cons,nodup_cons]at hn
  show (if p.1=n then (p.1,bs) else p)::dY fs n bs=_
  by_cases z:p.1=n
  ·have e:aO (p::fs) n=some p.2:=by simp [aO,z]
   rw[e]at h
   cases h
   rw[if_pos z,CC (fun m=>hn.1 (by rw[z]; exact m))]
  ·have e:aO (p::fs) n=aO fs n:=by simp [aO,z]
   rw[e]at h
   rw[if_neg z,vX hn.2 h]
theorem xK {n:Str}:∀ {ns:List Int} {D:Dk} {bs:List Int},D.left=none->(D.fs.map (·.1)).Nodup->aO D.fs n=some bs->rM n D ns=(sS D n (bs++ns) ns.length,true)
 | [],D,bs,hl,hk,hb=>by
  obtain⟨fs,done,left⟩:=D
  have hl:left=none:=hl
  subst hl
  show ((⟨fs,done,none⟩:Dk),true)=(⟨dY fs n (bs++[]),done+((0:Nat):Int),none⟩,true)
  rw[append_nil,vX hk hb]
  simp
 | b::ns,D,bs,hl,hk,hb=>by
  show (match iJ D with | none=>(D,false) | some D1=>rM n ⟨dY D1.fs n ((aO D1.fs n).getD []++[b]),D1.done,D1.left⟩ ns)=_
  rw[jI hl]
  dsimp only
  rw[hb,xK (bs:=bs++[b]) rfl (by rw[mP]; exact hk) (vY hb)]
  unfold sS
  dsimp only
  rw[Option.getD_some,D9,append_assoc,length_cons]
  have:D.done+1+(ns.length:Int)=D.done+((ns.length+1:Nat):Int):=by omega
  rw[this]
  rfl
theorem qL {C dk df:Addr} {H:Hp} {kvs:List (Key × V)} {D:Dk} (h:DiskAt C H dk df kvs D) {b:Addr} (hb:own dk df kvs b):∃ o,H b=some o:=by
 rcases hb with rfl | rfl | hb
 ·obtain⟨dx,h1⟩:=h.self
  exact⟨_,h1⟩
 ·exact⟨_,h.files⟩
 ·obtain⟨xs,e⟩:=o7 h.rel hb
  exact⟨_,e⟩
theorem o4 (fs:List (Str × List Int)) (n m:Str) (e:List Int) (h:aO fs n=none):aO (fs++[(n,e)]) m=if m=n then some e else aO fs m:=by
 unfold aO at h ⊢
 rw[Option.map_eq_none_iff,find?_eq_none]at h
 rw[List.find?_append]
 by_cases z:m=n
 ·subst z
  have:fs.find? (fun p=>decide (p.1=m))=none:=find?_eq_none.mpr h
  rw[this,if_pos rfl]
  simp
 ·rw[if_neg z]
  have z':¬ n=m:=fun y=>z y.symm
  cases fs.find? (fun p=>decide (p.1=m)) with
  | none=>simp [z']
  | some p=>simp
theorem uE (fs:List (Str × List Int)) (n m:Str) (e:List Int):aO (dY fs n e) m=if m=n then (aO fs n).map (fun _=>e) else aO fs m:=by
 unfold aO dY
 induction fs with
 | nil=>split <;> rfl
 | cons p fs ih=>
  rw[map_cons,find?_cons,find?_cons,find?_cons]
  by_cases z:m=n
  ·subst z
   rw[if_pos rfl]at ih ⊢
   by_cases y:p.1=m
   ·simp [y]
   ·simp only[y,if_false,decide_false]
    exact ih
  ·rw[if_neg z]at ih ⊢
   by_cases y:p.1=n
   ·have:¬ p.1=m:=fun x=>z (x.symm.trans y)
    simp only[y,if_true]
    rw[decide_eq_false (fun x:n=m=>z x.symm)]
    exact ih
   ·simp only[y,if_false]
    by_cases x:p.1=m
    ·simp [x]
    ·simp only[x,decide_false]
     exact ih
theorem rY {n:Int} (h0:0<=n) (h1:n<=999999):aS (cA ("from",n,[]))=true:=by
 show (kinds.contains "from" && (bN 0 999999 (.int n) && (cD (.tuple []) && fU "from" (a9 (.tuple [])))))=true
 have:bN 0 999999 (.int n)=true:=by
  simp only[bN,and_eq_true,decide_eq_true_eq]
  exact⟨h0,h1⟩
 rw[this]
 decide +kernel
theorem gI {σ : St} {H:Hp} {k:List V->Hp->Prop} (h:k [] H):eQ σ H k:=h
section
variable {C c1 c2 c3 c4 dk df:Addr} {kvs:List (Key × V)} {D:Dk} {n:Int} {H:Hp} {Q:V->Hp->Prop} {E:XK} {bs:List Int}
theorem zL (hD:DiskAt C H dk df kvs D) (hl:D.left=none) (hn:cZ n) (hf:D.fs.length<1000) (hno:aO D.fs (aQ n)=none) (q:∀ kvs' H',rN dk df kvs H H'->Dq dk df kvs kvs' H->DiskAt C H' dk df kvs' (mkN D (aQ n))->Q .non H'):oB C c1 c2 c3 [.ref dk,.str (aQ n)] H Q E:=by
 refine⟨dk,df,kvs,D,_,.str (aQ n),rfl,hD,by simp only[Den],pN hn,hf,(fun z=>by rw[jT hn]at z; cases z),fun n' e _=>?_⟩
 injection e with e
 subst e
 refine⟨(fun bs z=>by rw[hno]at z; cases z),fun _=>⟨(fun z=>by rw[jI hl]at z; cases z),fun D1 hs kvs' H' f g h=>?_⟩⟩
 rw[jI hl]at hs
 cases hs
 exact q _ _ f g h
theorem Dx (hD:DiskAt C H dk df kvs D) (hl:D.left=none) (hn:cZ n) (hb:aO D.fs (aQ n)=some bs) (q:∀ kvs' H',rN dk df kvs H H'->Dq dk df kvs kvs' H->DiskAt C H' dk df kvs' (Cc D (aQ n))->Q .non H'):oF C c1 c2 c3 [.ref dk,.str (aQ n)] H Q E:=by
 refine⟨dk,df,kvs,D,_,.str (aQ n),rfl,hD,by simp only[Den],pN hn,(fun z=>by rw[jT hn]at z; cases z),fun n' e _=>?_⟩
 injection e with e
 subst e
 refine⟨(fun z=>by rw[hb]at z; cases z),fun bs' z=>⟨(fun z=>by rw[jI hl]at z; cases z),fun D1 hs kvs' H' f g h=>?_⟩⟩
 rw[jI hl]at hs
 cases hs
 exact q _ _ f g h
theorem xM {a:Addr} {ns:List Int} (hD:DiskAt C H dk df kvs D) (hl:D.left=none) (hn:cZ n) (hb:aO D.fs (aQ n)=some bs) (hz:∀ n bs,aO D.fs n=some bs->bs.length<=100000) (ha:H a=some (.tup (ns.map V.int))) (hby:∀ b∈ns,0<=b/\b<=255) (hln:ns.length<=100000) (q:∀ H',rN dk df kvs H H'->DiskAt C H' dk df kvs (sS D (aQ n) (bs++ns) ns.length)->Q .non H'):pK C c1 c2 c3 c4 [.ref dk,.str (aQ n),.ref a] H Q E:=by
 refine⟨dk,df,kvs,D,_,_,.str (aQ n),.tuple (ns.map .int),rfl,hD,by simp only[Den],pN hn,by simp only[Den]; exact⟨a,_,rfl,ha,b8.mpr rfl⟩,(fun ds e=>by injection e with e; rw[<- e,length_map]; exact hln),hz,(fun z=>by rw[jT hn]at z; cases z),fun n' e _=>?_⟩
 injection e with e
 subst e
 refine⟨(fun z=>by rw[hb]at z; cases z),fun bs' z=>?_⟩
 rw[hb]at z
 cases z
 have hi:cD (.tuple (ns.map .int))=true:=o8 hby
 refine⟨(fun z=>by rw[hi]at z; cases z),fun _ H' f h=>?_⟩
 rw[dP,xK hl hD.kn hb]at h ⊢
 exact⟨fun _=>q H' f h,(fun z=>by cases z)⟩
theorem zK (hD:DiskAt C H dk df kvs D) (hn:cZ n) (hb:aO D.fs (aQ n)=some bs) (q:∀ H',aG H H'->Q (.int (bs.length:Int)) H'):n8 C c1 c2 [.ref dk,.str (aQ n)] H Q E:=by
 refine⟨dk,df,kvs,D,_,.str (aQ n),rfl,hD,by simp only[Den],pN hn,(fun z=>by rw[jT hn]at z; cases z),fun n' e _=>?_⟩
 injection e with e
 subst e
 refine⟨(fun z=>by rw[hb]at z; cases z),fun bs' z=>?_⟩
 rw[hb]at z
 cases z
 exact q
theorem Dv (hD:DiskAt C H dk df kvs D) (hn:cZ n) (hb:aO D.fs (aQ n)=some bs) (q:∀ p H',aG H H'->H' p=some (.tup (bs.map V.int))->Q (.ref p) H'):iW C c1 c2 [.ref dk,.str (aQ n)] H Q E:=by
 refine⟨dk,df,kvs,D,_,.str (aQ n),rfl,hD,by simp only[Den],pN hn,(fun z=>by rw[jT hn]at z; cases z),fun n' e _=>?_⟩
 injection e with e
 subst e
 refine⟨(fun z=>by rw[hb]at z; cases z),fun bs' z=>?_⟩
 rw[hb]at z
 cases z
 exact q
theorem Du {a:Addr} {rs:List Rw} {k:Nat} (ha:H a=some (.tup (bs.map V.int))) (hby:∀ b∈bs,0<=b/\b<=255) (hln:bs.length<=100000) (hr:gB (bs.length+1) bs=some (rs.map cA,k)) (q:∀ p pL H',aG H H'->H' p=some (.tup [.ref pL,.int (k:Int)])->Den H' (.list (rs.map cA)) (.ref pL)->Q (.ref p) H'):d8 c1 c2 [.ref a] H Q E:=by
 have isb:cD (.tuple (bs.map .int))=true:=o8 hby
 refine⟨.ref a,.tuple (bs.map .int),rfl,by simp only[Den]; exact⟨a,_,rfl,ha,b8.mpr rfl⟩,(fun bs' e=>?_),(fun z=>by rw[isb]at z; cases z),fun _=>?_⟩
 ·injection e with e
  rw[<- e,length_map]
  exact le_trans hln (by decide)
 rw[dP]
 refine⟨fun ds k' er p2 H2 S2 d2 _=>?_,(fun z=>by rw[hr]at z; cases z)⟩
 rw[hr]at er
 cases er
 have d2':=d2
 simp only[Den,aV]at d2'
 obtain⟨_,_,e1,gf,_,_,rfl,⟨pL,ys,rfl,gL,dL⟩,_,_,rfl,rfl,rfl⟩:=d2'
 cases e1
 exact q p2 pL H2 S2 gf (by simp only[Den]; exact⟨pL,ys,rfl,gL,dL⟩)
theorem wB {r:Rw} (h:aS (cA r)=true):kinds.contains r.1=true/\0<=r.2.1/\r.2.1<=999999/\dW r.2.2/\fU r.1 r.2.2=true:=by
 obtain⟨k,n,bs,e,hk,h0,h1,hb,hf⟩:=lG h
 unfold cA f9 at e
 injection e with e
 injection e with e1 e
 injection e with e2 e
 injection e with e3 e
 injection e1 with e1
 injection e2 with e2
 injection e3 with e3
 have hb':dW (a9 (.tuple bs)):=nX hb
 rw[<- e3,dP]at hf hb'
 rw[e1,e2]
 exact⟨hk,h0,h1,hb',by rw[<- e1]at hf ⊢; exact hf⟩
theorem qD {r:Rw} (h:aS (cA r)=true):r.2.2.length<=61:=uT (wB h).2.2.2.2
theorem kZ {r:Rw} (h:aS (cA r)=true):∀ b∈cV r.1 r.2.1 r.2.2,0<=b/\b<=255:=by
 obtain⟨hk,h0,h1,hb,hf⟩:=wB h
 have hl:=uT hf
 have hm:r.1∈kinds:=by simpa using hk
 have hi:=List.idxOf_lt_length_of_mem hm
 have hi:kinds.idxOf r.1<8:=hi
 intro b hm
 unfold cV dX eU at hm
 simp only[mem_append,mem_cons,List.not_mem_nil,or_false]at hm
 rcases hm with (z | z) | (((z | z | z | z) | z) | z)
 ·omega
 ·omega
 ·omega
 ·omega
 ·omega
 ·omega
 ·omega
 ·exact hb b z
theorem Fw (r:Rw):EI (cA r)=cV r.1 r.2.1 r.2.2:=by
 show cV r.1 r.2.1 (a9 (.tuple (r.2.2.map .int)))=_
 rw[dP]
theorem As {r:Rw} {v:V} (hd:Den H (cA r) v) (hr:aS (cA r)=true) (q:∀ p H',aG H H'->H' p=some (.tup ((cV r.1 r.2.1 r.2.2).map V.int))->Q (.ref p) H'):eR c1 [v] H Q E:=by
 refine⟨v,cA r,rfl,hd,fun k n bs e=>?_,fun _ p H' S g=>q p H' S (by rw[<- Fw]; exact g),(fun z=>by rw[hr]at z; cases z)⟩
 have hs:=qD hr
 unfold cA f9 at e
 injection e with e
 injection e with e1 e
 injection e with e2 e
 injection e with e3 e
 injection e3 with e3
 rw[<- e3,length_map]
 exact le_trans hs (by decide)
end
theorem EA {s tl:TS} {D:Ends} {σ : St} {H:Hp} (J:St->Hp->Prop) (h2:∀ n:St->Hp->Prop,(∀ σ' H',J σ' H'->n σ' H')->s { D with nx:=n } σ H) (h1:∀ σ' H',J σ' H'->tl D σ' H'):hW s tl D σ H:=h2 _ h1
section
variable {P:Program} {w:World} {K:PySem.W.Frag} {mg:Str->Option Value} {base:Heap} {A:Ad}
theorem eS:FnScope ["disk","segments","name","rows","size"] ["disk"] (aH lX):=‹0›
end
structure Qs where
 D:Dk
 B:Bk
 most:Int
 hold:Int
 tries:Int
 first:Int
 last:Int
 now:Int
 hs:List (Int × (Str × Int))
structure Pl where
 qu:Addr
 dk:Addr
 df:Addr
 bk:Addr
 de:Addr
 dp:Addr
 hd:Addr
 kvs:List (Key × V)
noncomputable def quF (L:Pl) (q:Qs) (wr:Bool):List (Str × V):=[("disk",.ref L.dk),("most",.int q.most),("hold",.int q.hold),("tries",.int q.tries),("book",.ref L.bk),("first",.int q.first),("last",.int q.last),("writing",.bl wr),("holders",.ref L.hd),("now",.int q.now)]
def HoR (H:Hp):List (Int × (Str × Int))->List (Key × V)->Prop
 | [],[]=>True
 | p::hs,r::kvs=>r.1=Sum.inl p.1/\(∃ t,r.2 = .ref t/\H t=some (.tup [.str p.2.1,.int p.2.2]))/\HoR H hs kvs
 | _,_=>False
theorem HoR.t {H H':Hp} (s:gA H H'):∀ {hs:List (Int × (Str × Int))} {kvs:List (Key × V)},HoR H hs kvs->HoR H' hs kvs
 | [],[],_=>trivial
 | p::hs,r::kvs,h=>by
  obtain⟨h1,⟨t,e,g⟩,h3⟩:=h
  exact⟨h1,⟨t,e,s _ _ g⟩,HoR.t s h3⟩
 | [],_::_,h=>h.elim
 | _::_,[],h=>h.elim
def AS (L:Pl) (b:Addr):Prop:=b=L.bk\/b=L.de\/b=L.dp
def E5 (L:Pl) (b:Addr):Prop:=own L.dk L.df L.kvs b
def iC (L:Pl) (b:Addr):Prop:=b=L.qu\/b=L.hd\/AS L b\/E5 L b
structure QueueW (A:Ad) (H:Hp) (L:Pl) (q:Qs) (wr:Bool):Prop where
 self:∃ dx,H L.qu=some (.ins A.queue dx (quF L q wr))
 disk:DiskAt A.disk H L.dk L.df L.kvs q.D
 book:BookAt A.book H L.bk L.de L.dp q.B
 held:∃ hk,H L.hd=some (.dK hk)/\HoR H q.hs hk
 a_bd:∀ b,AS L b->¬ E5 L b
 a_qu:¬ AS L L.qu/\¬ E5 L L.qu
 a_hd:L.hd≠L.qu/\¬ AS L L.hd/\¬ E5 L L.hd
structure Step (L L':Pl) (H H':Hp):Prop where
 qu:L'.qu=L.qu
 dk:L'.dk=L.dk
 frm:∀ b o,H b=some o->¬ iC L b->H' b=some o
 grow:∀ b,iC L' b->iC L b\/H b=none
 tup:gA H H'
theorem Step.trans {L L1 L2:Pl} {H H1 H2:Hp} (a:Step L L1 H H1) (b:Step L1 L2 H1 H2):Step L L2 H H2:=by
 refine⟨b.qu.trans a.qu,b.dk.trans a.dk,fun c o e nc=>b.frm c o (a.frm c o e nc) (fun z=>(a.grow c z).elim nc (fun y=>by rw[y]at e; cases e)),fun c hc=>?_,a.tup.trans b.tup⟩
 rcases b.grow c hc with z | z
 ·exact a.grow c z
 ·by_cases y:iC L c
  ·exact .inl y
  ·refine .inr ?_
   cases e:H c with
   | none=>rfl
   | some o=>rw[a.frm c o e y]at z; cases z
theorem aG.step {L:Pl} {H H':Hp} (s:aG H H'):Step L L H H':=⟨rfl,rfl,fun b o e _=>s b o e,fun b h=>.inl h,aG.tup s⟩
theorem Step.not {L L':Pl} {H H':Hp} (a:Step L L' H H') {b:Addr} {o:HO} (e:H b=some o) (n:¬ iC L b):¬ iC L' b:=fun z=>(a.grow b z).elim n (fun y=>by rw[y]at e; cases e)
theorem DiskAt.keep {C dk df:Addr} {H H':Hp} {kvs:List (Key × V)} {D:Dk} (h:DiskAt C H dk df kvs D) (s:∀ b o,H b=some o->own dk df kvs b->H' b=some o):DiskAt C H' dk df kvs D:=by
 obtain⟨dx,h1⟩:=h.self
 exact⟨⟨dx,s _ _ h1 (.inl rfl)⟩,s _ _ h.files (.inr (.inl rfl)),h.rel.same fun b o e m=>s b o e (.inr (.inr m)),h.nd,h.kn⟩
theorem BookAt.keep {C bk de dp:Addr} {H H':Hp} {B:Bk} (h:BookAt C H bk de dp B) (s:∀ b o,H b=some o->b=bk\/b=de\/b=dp->H' b=some o) (t:gA H H'):BookAt C H' bk de dp B:=by
 obtain⟨dx,h1⟩:=h.self
 obtain⟨kvs,h2,h3⟩:=h.ent
 obtain⟨ps,h4,h5⟩:=h.par
 exact⟨⟨dx,s _ _ h1 (.inl rfl)⟩,⟨kvs,s _ _ h2 (.inr (.inl rfl)),h3.t t⟩,⟨ps,s _ _ h4 (.inr (.inr rfl)),iR t (iF _) h5⟩⟩
theorem rN.tup {C dk df:Addr} {H H':Hp} {kvs:List (Key × V)} {D:Dk} (h:DiskAt C H dk df kvs D) (f:rN dk df kvs H H'):gA H H':=fun b xs e=>by
 refine f b _ e ?_
 rintro (rfl | rfl | z)
 ·obtain⟨dx,h1⟩:=h.self
  rw[h1]at e
  cases e
 ·rw[h.files]at e
  cases e
 ·obtain⟨ys,e2⟩:=o7 h.rel z
  rw[e2]at e
  cases e
section
variable {A:Ad} {H H':Hp} {L:Pl} {q:Qs} {wr:Bool}
theorem QueueW.same (h:QueueW A H L q wr) (s:aG H H'):QueueW A H' L q wr:=by
 obtain⟨dx,h1⟩:=h.self
 obtain⟨hk,h2,h3⟩:=h.held
 exact⟨⟨dx,s _ _ h1⟩,h.disk.same s,h.book.same s,⟨hk,s _ _ h2,h3.t (aG.tup s)⟩,h.a_bd,h.a_qu,h.a_hd⟩
theorem QueueW.fields (h:QueueW A H L q wr) {dx:Addr} (q':Qs) (wr':Bool) (eD:q'.D=q.D) (eB:q'.B=q.B) (eH:q'.hs=q.hs):QueueW A (upd H L.qu (.ins A.queue dx (quF L q' wr'))) L q' wr'/\Step L L H (upd H L.qu (.ins A.queue dx (quF L q' wr'))):=by
 obtain⟨dx0,h1⟩:=h.self
 obtain⟨hk,h2,h3⟩:=h.held
 have t:gA H (upd H L.qu (.ins A.queue dx (quF L q' wr'))):=iV h1 (fun xs z=>by cases z)
 refine⟨⟨⟨dx,aC⟩,?_,?_,⟨hk,by rw[aF h.a_hd.1]; exact h2,by rw[eH]; exact h3.t t⟩,h.a_bd,h.a_qu,h.a_hd⟩,⟨rfl,rfl,fun b o e nb=>by rw[aF (fun z=>nb (.inl z))]; exact e,fun b hb=>.inl hb,t⟩⟩
 ·rw[eD]
  refine h.disk.keep fun b o e hb=>?_
  rw[aF (fun z=>by rw[z]at hb; exact h.a_qu.2 hb)]
  exact e
 ·rw[eB]
  refine h.book.keep (fun b o e hb=>?_) t
  rw[aF (fun z=>by rw[z]at hb; exact h.a_qu.1 hb)]
  exact e
theorem QueueW.toDisk (h:QueueW A H L q wr) {kvs':List (Key × V)} {D':Dk} (f:rN L.dk L.df L.kvs H H') (g:Dq L.dk L.df L.kvs kvs' H) (hD:DiskAt A.disk H' L.dk L.df kvs' D'):QueueW A H' { L with kvs:=kvs' } { q with D:=D' } wr/\Step L { L with kvs:=kvs' } H H':=by
 obtain⟨dx0,h1⟩:=h.self
 obtain⟨hk,h2,h3⟩:=h.held
 have t:gA H H':=f.tup h.disk
 have far:∀ b o,H b=some o->¬ E5 L b->¬ own L.dk L.df kvs' b:=fun b o e nb z=>(g b z).elim nb (fun y=>by rw[y]at e; cases e)
 refine⟨⟨⟨dx0,f _ _ h1 h.a_qu.2⟩,hD,h.book.keep (fun b o e hb=>f b o e (h.a_bd b hb)) t,⟨hk,f _ _ h2 h.a_hd.2.2,h3.t t⟩,fun b hb=>?_,⟨h.a_qu.1,far _ _ h1 h.a_qu.2⟩,⟨h.a_hd.1,h.a_hd.2.1,far _ _ h2 h.a_hd.2.2⟩⟩,⟨rfl,rfl,fun b o e nb=>f b o e (fun z=>nb (.inr (.inr (.inr z)))),fun b hb=>?_,t⟩⟩
 ·obtain⟨dx,g1⟩:=h.book.self
  obtain⟨kvs,g2,_⟩:=h.book.ent
  obtain⟨ps,g3,_⟩:=h.book.par
  have nb:=h.a_bd b hb
  rcases hb with z | z | z
  ·exact far b _ (by rw[z]; exact g1) nb
  ·exact far b _ (by rw[z]; exact g2) nb
  ·exact far b _ (by rw[z]; exact g3) nb
 ·rcases hb with z | z | z | z
  ·exact .inl (.inl z)
  ·exact .inl (.inr (.inl z))
  ·exact .inl (.inr (.inr (.inl z)))
  ·rcases g b z with y | y
   ·exact .inl (.inr (.inr (.inr y)))
   ·exact .inr y
theorem QueueW.toBook (h:QueueW A H L q wr) {dq:Addr} {B':Bk} (f:Frm L.bk L.de L.dp H H') (hq:dq=L.dp\/H dq=none) (hB:BookAt A.book H' L.bk L.de dq B'):QueueW A H' { L with dp:=dq } { q with B:=B' } wr/\Step L { L with dp:=dq } H H':=by
 obtain⟨dx0,h1⟩:=h.self
 obtain⟨hk,h2,h3⟩:=h.held
 have t:gA H H':=h.book.tup f
 have fr:∀ b o,H b=some o->¬ AS L b->H' b=some o:=fun b o e nb=>f b o e (fun z=>nb (.inl z)) (fun z=>nb (.inr (.inl z))) (fun z=>nb (.inr (.inr z)))
 have nq:∀ b o,H b=some o->¬ AS L b->¬ AS { L with dp:=dq } b:=fun b o e nb z=>by
  rcases z with z | z | z
  ·exact nb (.inl z)
  ·exact nb (.inr (.inl z))
  ·rcases hq with y | y
   ·exact nb (.inr (.inr (z.trans y)))
   ·have z:b=dq:=z
    rw[z,y]at e
    cases e
 refine⟨⟨⟨dx0,fr _ _ h1 h.a_qu.1⟩,h.disk.keep (fun b o e hb=>fr b o e (fun z=>h.a_bd b z hb)),hB,⟨hk,fr _ _ h2 h.a_hd.2.1,h3.t t⟩,fun b hb hd=>?_,⟨nq _ _ h1 h.a_qu.1,h.a_qu.2⟩,⟨h.a_hd.1,nq _ _ h2 h.a_hd.2.1,h.a_hd.2.2⟩⟩,⟨rfl,rfl,fun b o e nb=>fr b o e (fun z=>nb (.inr (.inr (.inl z)))),fun b hb=>?_,t⟩⟩
 ·obtain⟨o,e⟩:=qL h.disk hd
  by_cases y:AS L b
  ·exact h.a_bd b y hd
  ·exact nq b o e y hb
 ·rcases hb with z | z | z | z
  ·exact .inl (.inl z)
  ·exact .inl (.inr (.inl z))
  ·rcases z with z | z | z
   ·exact .inl (.inr (.inr (.inl (.inl z))))
   ·exact .inl (.inr (.inr (.inl (.inr (.inl z)))))
   ·rcases hq with y | y
    ·exact .inl (.inr (.inr (.inl (.inr (.inr (z.trans y))))))
    ·have z:b=dq:=z
     rw[z]
     exact .inr y
  ·exact .inl (.inr (.inr (.inr z)))
end
noncomputable abbrev lW:Stmt:=bL (top 52) 8
noncomputable abbrev tE:Stmt:=bL (top 52) 17
noncomputable abbrev pV:Stmt:=bL (top 52) 9
theorem kB {H:Hp} {n:Int} {e:Ent} {v:V} (h:Den H (vN n e) v):∃ t b,v = .ref t/\H t=some (.tup [.int n,.ref b,.int e.2.1])/\H b=some (.tup (e.1.map V.int)):=by
 unfold vN at h
 simp only[Den,aV]at h
 obtain⟨t,_,rfl,h1,_,_,rfl,rfl,_,_,rfl,⟨b,ys,rfl,h2,h3⟩,_,_,rfl,rfl,rfl⟩:=h
 rw[b8.mp h3]at h2
 exact⟨t,b,rfl,h1,h2⟩
theorem BI {α : Type} (xs:List α) (d:α):(List.range xs.length).map (fun j=>xs.getD j d)=xs:=by
 apply ext_getElem?
 intro i
 rw[getElem?_map]
 by_cases h:i<xs.length
 ·rw[List.getElem?_range h,Option.map_some,getD_eq_getElem?_getD,getElem?_eq_getElem h]
  rfl
 ·rw[getElem?_eq_none (by rw[length_range]; omega),getElem?_eq_none (by omega)]
  rfl
theorem uS (ms:List Int) (t:Int->Bool):((List.range ms.length).filter (fun j=>t (ms.getD j 0))).map (fun j=>V.int (ms.getD j 0))=(ms.filter t).map V.int:=by
 have h:=congrArg (fun l=>(l.filter t).map V.int) (BI ms 0)
 rw[List.filter_map,map_map]at h
 exact h
noncomputable def kJ (es:List (Int × Ent)) (n:Int):Int:=((aM es n).getD ([],0,0)).2.1
def kM (A:Ad):Sp:=fun vs H Q _=>∃ (L:Pl) (q:Qs),vs=[.ref L.qu]/\QueueW A H L q false/\q.B.es.length<500/\
 ∀ ms,List.Perm ms (q.B.es.map (·.1))->ms.Pairwise (· <= ·)->∀ p H',aG H H'->H p=none->Den H' (.list (ms.map (fR q.B.es))) (.ref p)->Q (.ref p) H'
noncomputable def hV (hs:List (Int × (Str × Int))) (n:Int):Option (Str × Int):=(hs.find? fun p=>decide (p.1=n)).map (·.2)
noncomputable def mD (hs:List (Int × (Str × Int))) (n:Int):Bool:=(hV hs n).isNone
def pH (A:Ad):Sp:=fun vs H Q _=>∃ (L:Pl) (q:Qs),vs=[.ref L.qu]/\QueueW A H L q false/\q.B.es.length<500/\
 ∀ ms,List.Perm ms (q.B.es.map (·.1))->ms.Pairwise (· <= ·)->∀ p H',aG H H'->Den H' (.list ((ms.filter (mD q.hs)).map (fR q.B.es))) (.ref p)->Q (.ref p) H'
def pF (A:Ad) (t:Int->Int->Bool):Sp:=fun vs H Q _=>∃ (L:Pl) (q:Qs),vs=[.ref L.qu]/\QueueW A H L q false/\q.B.es.length<500/\
 ∀ ms,List.Perm ms (q.B.es.map (·.1))->ms.Pairwise (· <= ·)->∀ p H',aG H H'->H p=none->H' p=some (.lst (((ms.filter (mD q.hs)).filter fun n=>t (kJ q.B.es n) q.tries).map V.int))->Q (.ref p) H'
noncomputable def ltB (i j:Int):Bool:=decide (i<j)
theorem HoR.look {H:Hp} {n:Int}:∀ {hs:List (Int × (Str × Int))} {hk:List (Key × V)},HoR H hs hk->(hV hs n=none->dS hk (Sum.inl n)=none)/\∀ x tm,hV hs n=some (x,tm)->∃ t,dS hk (Sum.inl n)=some (.ref t)/\H t=some (.tup [.str x,.int tm])
 | [],[],_=>⟨fun _=>rfl,fun x tm e=>by cases e⟩
 | p::hs,r::hk,h=>by
  obtain⟨h1,⟨t,e2,g⟩,h3⟩:=h
  have ih:=HoR.look (n:=n) h3
  by_cases e:p.1=n
  ·have e1:hV (p::hs) n=some p.2:=by
    unfold hV
    rw[find?_cons,decide_eq_true e]
    rfl
   rw[e1,iH (by rw[h1,e])]
   refine⟨(fun z=>by cases z),fun x tm z=>⟨t,by rw[e2],?_⟩⟩
   rw[Option.some.inj z]at g
   exact g
  ·have e1:hV (p::hs) n=hV hs n:=by
    unfold hV
    rw[find?_cons,decide_eq_false e]
   rw[e1,iI (fun z=>e (Sum.inl.inj (h1.symm.trans z)))]
   exact ih
 | [],_::_,h=>h.elim
 | _::_,[],h=>h.elim
theorem HoR.snoc {H:Hp} {n:Int} {x:Str} {tm:Int} {t:Addr} (g:H t=some (.tup [.str x,.int tm])):∀ {hs:List (Int × (Str × Int))} {hk:List (Key × V)},HoR H hs hk->HoR H (hs++[(n,(x,tm))]) (hk++[(Sum.inl n,.ref t)])
 | [],[],_=>⟨rfl,⟨t,rfl,g⟩,trivial⟩
 | _::_,_::_,⟨h1,h2,h3⟩=>⟨h1,h2,HoR.snoc g h3⟩
 | [],_::_,h=>h.elim
 | _::_,[],h=>h.elim
noncomputable def uW (hs:List (Int × (Str × Int))) (n:Int):List (Int × (Str × Int)):=hs.filter fun p=>decide (p.1≠n)
theorem HoR.drop {H:Hp} {n:Int}:∀ {hs:List (Int × (Str × Int))} {hk:List (Key × V)},HoR H hs hk->HoR H (uW hs n) (hJ hk (Sum.inl n))
 | [],[],_=>trivial
 | p::hs,r::hk,h=>by
  obtain⟨h1,h2,h3⟩:=h
  have ih:=HoR.drop (n:=n) h3
  unfold uW hJ at ih ⊢
  rw[filter_cons,filter_cons]
  by_cases e:p.1=n
  ·rw[if_neg (by rw[decide_eq_true_eq]; exact fun z=>z e),if_neg (by rw[decide_eq_true_eq,h1,e]; exact fun z=>z rfl)]
   exact ih
  ·rw[if_pos (show decide (p.1≠n)=true from decide_eq_true e),if_pos (show decide (r.1≠Sum.inl n)=true from decide_eq_true (fun z=>e (Sum.inl.inj (h1.symm.trans z))))]
   exact⟨h1,h2,ih⟩
 | [],_::_,h=>h.elim
 | _::_,[],h=>h.elim
theorem HoR.len {H:Hp}:∀ {hs:List (Int × (Str × Int))} {hk:List (Key × V)},HoR H hs hk->hk.length=hs.length
 | [],[],_=>rfl
 | _::_,_::_,⟨_,_,h3⟩=>by rw[length_cons,length_cons,HoR.len h3]
 | [],_::_,h=>h.elim
 | _::_,[],h=>h.elim
theorem uY {H:Hp} {f:Int->PyData} {p:Int->Bool}:∀ {ms:List Int} {xs:List V},aV H (ms.map f) xs->aV H ((ms.filter p).map f) (((List.range xs.length).filter fun j=>p (ms.getD j 0)).map fun j=>xs.getD j .non)
 | [],xs,h=>by
  have h:aV H [] xs:=h
  simp only[aV]at h
  subst h
  simp only[List.filter_nil,map_nil,List.length_nil,List.range_zero,aV]
 | m::ms,xs,h=>by
  rw[map_cons]at h
  simp only[aV]at h
  obtain⟨x,r,rfl,h1,h2⟩:=h
  have ih:=uY (p:=p) h2
  rw[length_cons,range_succ_eq_map,filter_cons,filter_cons,List.filter_map]
  have e0:((m::ms).getD 0 0)=m:=rfl
  have e1:((fun j=>p ((m::ms).getD j 0)) ∘ Nat.succ)=fun j=>p (ms.getD j 0):=rfl
  rw[e0,e1]
  cases hp:p m with
  | true=>
   rw[if_pos rfl,if_pos rfl,map_cons,map_cons,map_map]
   simp only[aV]
   exact⟨x,_,rfl,h1,ih⟩
  | false=>
   rw[if_neg (by decide),if_neg (by decide),map_map]
   exact ih
theorem eA {a b:List Int} (h:List.Perm a b) (ha:a.Pairwise (· <= ·)) (hb:b.Pairwise (· <= ·)):a=b:=List.Perm.eq_of_pairwise (fun x y _ _ h1 h2=>by omega) ha hb h
section
variable {P:Program} {w:World} {K:PySem.W.Frag} {mg:Str->Option Value} {base:Heap} {A:Ad}
theorem pO:FnScope ["self"] ["self"] (aH lW):=‹0›
theorem yM {f:Addr} {fd:FuncData} (F:Fun K "letters" "Queue.letters" lW f fd) (T:TxtQ K mg A) (ae4:‹8› A.book "letters" 2 ["self"] (kN A.book)):‹6› 3 f fd ["self"] (kM A):=by
 refine F.okX pO (fun vs H Q E h=>?_) (fun cdv A' outer s H vs Q E hr h=>?_)
 ·obtain⟨L,q,rfl,_⟩:=h
  rfl
 ·obtain⟨L,q,rfl,hq,hl,qq⟩:=h
  refine⟨_,@aE _ _ _ (@bB _ _ _ _ (@eJ _ _ _ _ _ _ _ _ _ _ _ _ ae4 T.ad4 ‹11› a8 ‹26› ⋯)),?_⟩
  obtain⟨dx,h1⟩:=hq.self
  obtain⟨db,h2⟩:=hq.book.self
  exact⟨_,rfl,L.qu,_,dx,_,_,rfl,h1,T.aa0,T.ae8,rfl,L.bk,db,_,rfl,h2,rfl,L.bk,L.de,L.dp,q.B,rfl,hq.book,hl,qq⟩
theorem lP:FnScope ["self"] ["self"] (aH tE):=‹0›
theorem DB {f:Addr} {fd:FuncData} (F:Fun K "free_letters" "Queue.free_letters" tE f fd) (T:TxtQ K mg A) (ae4:‹8› A.book "letters" 2 ["self"] (kN A.book)):‹6› 3 f fd ["self"] (pH A):=by
 refine F.okX lP (fun vs H Q E h=>?_) (fun cdv A' outer s H vs Q E hr h=>?_)
 ·obtain⟨L,q,rfl,_⟩:=h
  rfl
 ·obtain⟨L,q,rfl,hq,hl,qq⟩:=h
  refine⟨_,@aE _ _ _ (@bB _ _ _ _ (@dI _ _ _ _ _ _ _ _ _ _ _ ["letter"] [("self",0)] (by rfl) (@bU _ K _ _ _ (@eJ _ _ _ _ _ _ _ _ _ _ _ _ ae4 T.ad4 ‹11› a8 ‹26› ⋯) ⋯) (fun C s2 H2 ex=>(@bI _ _ (0) _ (show List.Nodup (["letter","self"]:List Str) by decide +kernel) (by rfl) (Or.inl (by rfl)) ⋯)) (fun C s2 H2 ex=>(@oV _ _ _ (@tR _ _ _ _ _ _ (@qJ _ _ _ _ _ (hu1 hr.units) ‹29› (@yG K _ _ _ _ _ ‹17› (by rfl) ⋯)) ⋯))) (fun C s2 H2 ex=>‹16›) ⋯ ⋯ ⋯ ⋯)),?_⟩
  obtain⟨dx,h1⟩:=hq.self
  obtain⟨db,h2⟩:=hq.book.self
  obtain⟨hk,h3,h4⟩:=hq.held
  refine⟨_,rfl,L.qu,_,dx,_,_,rfl,h1,T.aa0,T.ae8,rfl,L.bk,db,_,rfl,h2,rfl,L.bk,L.de,L.dp,q.B,rfl,hq.book,hl,fun ms perm pw p H1 S1 _ d1=>?_⟩
  have d1':=d1
  simp only[Den]at d1'
  obtain⟨_,xs,e1,g1,dx1⟩:=d1'
  cases e1
  have lx:=dx1.length
  rw[length_map]at lx
  have pl:=perm.length_eq
  rw[length_map]at pl
  refine⟨p,rfl,⟨_,SqL.of g1⟩,?_⟩
  refine mE (bT (K:=K) (SqL.of g1)) (by rw[lx,pl]; exact le_of_lt (lt_trans hl (by decide))) (fun j=>mD q.hs (ms.getD j 0)) (fun j=>xs.getD j .non) (fun σ=>∃ z,σ = [z,some (.ref L.qu)]) ?z0 ?_ ?_
  case z0=>exact⟨none,rfl⟩
  ·intro j x σc H3 hj hσ s3 hx Q1 Q2 Q3 h2' h3'
   obtain⟨z,rfl⟩:=hσ
   obtain⟨d,hd,dn⟩:=dx1.get hx
   rw[getElem?_map]at hd
   cases ej:ms[j]? with
   | none=>rw[ej]at hd; cases hd
   | some n=>
    rw[ej]at hd
    cases (Option.some.inj hd:fR q.B.es n=d)
    obtain⟨t,b,rfl,gt,gb⟩:=kB dn
    have eg:xs.getD j .non = .ref t:=by rw[getD_eq_getElem?_getD,hx]; rfl
    have em:ms.getD j 0=n:=by rw[getD_eq_getElem?_getD,ej]; rfl
    rw[eg,em]at h2'
    rw[em]at h3'
    have dg:fN H3 L.hd (.int n) (dS hk (Sum.inl n)):=fN.k (k:=Sum.inl n) (s3 _ _ (S1 _ _ h3))
    refine⟨_,rfl,t,_,_,.int n,rfl,rfl,SqT.of (s3 _ _ gt),bZ (by decide) rfl,_,rfl,L.qu,_,dx,_,_,rfl,s3 _ _ (S1 _ _ h1),T.aa0,T.af8,rfl,L.hd,_,rfl,dg,_,rfl,?_⟩
    cases el:hV q.hs n with
    | none=>
     rw[(h4.look (n:=n)).1 el]
     exact aX ⟨_,rfl,h2' _ ⟨_,rfl⟩ (by unfold mD; rw[el]; rfl)⟩
    | some o=>
     obtain⟨t',ev,_⟩:=(h4.look (n:=n)).2 o.1 o.2 el
     rw[ev]
     exact bE (h3' _ ⟨_,rfl⟩ (by unfold mD; rw[el]; rfl))
  intro D H2 hD S2 g2
  refine qq ms perm pw D H2 (S1.trans S2) ?_
  simp only[Den]
  exact⟨D,_,rfl,g2,(uY dx1).same S2⟩
theorem sX:FnScope ["self"] ["self"] (aH pV):=‹0›
theorem BQ {f:Addr} {fd:FuncData} (F:Fun K "ready" "Queue.ready" pV f fd) (T:TxtQ K mg A) (ag0:‹8› A.queue "free_letters" 3 ["self"] (pH A)):‹6› 4 f fd ["self"] (pF A ltB):=by
 refine F.okX sX (fun vs H Q E h=>?_) (fun cdv A' outer s H vs Q E hr h=>?_)
 ·obtain⟨L,q,rfl,_⟩:=h
  rfl
 ·obtain⟨L,q,rfl,hq,hl,qq⟩:=h
  refine⟨_,@aE _ _ _ (@bB _ _ _ _ (@dI _ _ _ _ _ _ _ _ _ _ _ ["letter"] [("self",0)] (by rfl) (@bU _ K _ _ _ (@eJ _ _ _ _ _ _ _ _ _ _ _ _ ag0 T.aa0 ‹11› a8 ‹16› ⋯) ⋯) (fun C s2 H2 ex=>(@bI _ _ (0) _ (show List.Nodup (["letter","self"]:List Str) by decide +kernel) (by rfl) (Or.inl (by rfl)) ⋯)) (fun C s2 H2 ex=>(@oV _ _ _ (@aZ _ _ _ _ _ _ _ _ CN ‹29› (@yG K _ _ _ _ _ ‹17› (by rfl) ⋯) (bK _)))) (fun C s2 H2 ex=>‹29›) ⋯ ⋯ ⋯ ⋯)),?_⟩
  obtain⟨dx,h1⟩:=hq.self
  refine⟨_,rfl,L.qu,dx,_,rfl,h1,rfl,L,q,rfl,hq,hl,fun ms0 perm pw p H1 S1 d1=>?_⟩
  obtain⟨ms,hms⟩:∃ ms,ms=ms0.filter (mD q.hs):=⟨_,rfl⟩
  rw[<- hms]at d1
  have d1':=d1
  simp only[Den]at d1'
  obtain⟨_,xs,e1,g1,dx1⟩:=d1'
  cases e1
  have lx:=dx1.length
  rw[length_map]at lx
  have pl:=perm.length_eq
  rw[length_map]at pl
  have pl2:ms.length<=ms0.length:=by rw[hms]; exact length_filter_le _ _
  refine⟨p,rfl,⟨_,SqL.of g1⟩,?_⟩
  refine mE (bT (K:=K) (SqL.of g1)) (by rw[lx]; exact le_of_lt (Nat.lt_of_le_of_lt (show _<=q.B.es.length by omega) (lt_trans hl (by decide)))) (fun j=>ltB (kJ q.B.es (ms.getD j 0)) q.tries) (fun j=>V.int (ms.getD j 0)) (fun σ=>∃ z,σ = [z,some (.ref L.qu)]) ?z0 ?_ ?_
  case z0=>exact⟨none,rfl⟩
  ·intro j x σc H3 hj hσ s3 hx Q1 Q2 Q3 h2' h3'
   obtain⟨z,rfl⟩:=hσ
   obtain⟨d,hd,dn⟩:=dx1.get hx
   rw[getElem?_map]at hd
   cases ej:ms[j]? with
   | none=>rw[ej]at hd; cases hd
   | some n=>
    rw[ej]at hd
    cases (Option.some.inj hd:fR q.B.es n=d)
    obtain⟨t,b,rfl,gt,gb⟩:=kB dn
    have eg:ms.getD j 0=n:=by rw[getD_eq_getElem?_getD,ej]; rfl
    rw[eg]at h2' h3'
    refine⟨_,rfl,t,_,_,.int (kJ q.B.es n),rfl,rfl,SqT.of (s3 _ _ gt),bZ (by decide) rfl,_,rfl,L.qu,_,dx,_,_,rfl,s3 _ _ (S1 _ _ h1),T.aa0,T.bk5,rfl,_,_,rfl,rfl,_,rfl,?_⟩
    show if ltB (kJ q.B.es n) q.tries=true then _ else _
    cases hb:ltB (kJ q.B.es n) q.tries with
    | true=>exact aX ⟨_,rfl,t,_,_,.int n,rfl,rfl,SqT.of (s3 _ _ gt),bZ (by decide) rfl,h2' _ ⟨_,rfl⟩ hb⟩
    | false=>exact bE (h3' _ ⟨_,rfl⟩ hb)
  intro D H2 hD S2 g2
  rw[lx,uS ms (fun n=>ltB (kJ q.B.es n) q.tries)]at g2
  rw[hms]at g2
  exact qq ms0 perm pw D H2 (S1.trans S2) (S1.free hD) g2
end
noncomputable abbrev tD:Stmt:=bL (top 52) 20
noncomputable abbrev pZ:Stmt:=bL (top 52) 21
noncomputable abbrev pW:Stmt:=bL (top 52) 22
noncomputable abbrev pU:Stmt:=bL (top 52) 19
noncomputable def bP (rs:List Rw):List Int:=(rs.map fun r=>cV r.1 r.2.1 r.2.2).flatten
noncomputable def fS (q:Qs):List Int:=(aO q.D.fs (aQ q.last)).getD []
noncomputable def wT (q:Qs) (bs:List Int):Bool:=!decide (q.B.up > 999999) && decide ((bs.length:Int) ≥ q.most)
noncomputable def u8 (q:Qs):Qs:={ q with D:=sS (mkN q.D (aQ (q.last+1))) (aQ (q.last+1)) (cV "from" q.B.up []) 7,last:=q.last+1 }
noncomputable def aJ (q:Qs):Qs:=if wT q (fS q)=true then u8 q else q
noncomputable def pB (q:Qs) (bs:List Int) (B:Bk):Qs:={ q with D:=sS q.D (aQ q.last) (fS q++bs) bs.length,B:=B }
structure WOk (q:Qs) (k:Nat):Prop where
 left:q.D.left=none
 last:cZ q.last
 nxt:cZ (q.last+1)
 here:∃ bs,aO q.D.fs (aQ q.last)=some bs
 new:aO q.D.fs (aQ (q.last+1))=none
 len:∀ n bs,aO q.D.fs n=some bs->bs.length<=100000
 files:q.D.fs.length<900
 up:0<=q.B.up
 ents:q.B.es.length+q.B.parts.length+k<900
def pG (A:Ad):Sp:=fun vs H Q _=>∃ (L:Pl) (q:Qs) (wr:Bool) (bs:List Int),vs=[.ref L.qu]/\QueueW A H L q wr/\cZ q.last/\aO q.D.fs (aQ q.last)=some bs/\∀ H',aG H H'->Q (.bl (wT q bs)) H'
def nG (A:Ad):Sp:=fun vs H Q _=>∃ (L:Pl) (q:Qs) (wr:Bool),vs=[.ref L.qu]/\QueueW A H L q wr/\q.D.left=none/\cZ (q.last+1)/\aO q.D.fs (aQ (q.last+1))=none/\q.D.fs.length<1000/\(∀ n bs,aO q.D.fs n=some bs->bs.length<=100000)/\0<=q.B.up/\q.B.up<=999999/\∀ L' H',Step L L' H H'->QueueW A H' L' (u8 q) wr->Q .non H'
def nE (A:Ad):Sp:=fun vs H Q _=>∃ (L:Pl) (q:Qs) (wr:Bool) (bs:List Int),vs=[.ref L.qu]/\QueueW A H L q wr/\q.D.left=none/\cZ q.first/\aO q.D.fs (aQ q.first)=some bs/\∀ L' H',Step L L' H H'->QueueW A H' L' { q with D:=Cc q.D (aQ q.first),first:=q.first+1 } wr->Q .non H'
def gC (A:Ad):Sp:=fun vs H Q _=>∃ (L:Pl) (q:Qs) (a:Addr) (rs:List Rw) (B':Bk),vs=[.ref L.qu,.ref a]/\QueueW A H L q false/\WOk q rs.length/\¬ iC L a/\Den H (.list (rs.map cA)) (.ref a)/\(∀ r∈rs,aS (cA r)=true)/\eX (aJ q).last (aJ q).B rs=some B'/\∀ L' H',Step L L' H H'->QueueW A H' L' (pB (aJ q) (bP rs) B') false->Q .non H'
section
variable {P:Program} {w:World} {K:PySem.W.Frag} {mg:Str->Option Value} {base:Heap} {A:Ad}
theorem lO:FnScope ["self"] ["self"] (aH tD):=‹0›
theorem DA {f:Addr} {fd:FuncData} (F:Fun K "is_last_full" "Queue.is_last_full" tD f fd) (T:TxtQ K mg A) (ab1:(Callee P w K mg base "segment_name" 1 ["segment"] hU)) (ah8:‹8› A.disk "size" 4 ["self","name"] (n8 A.disk A.badName A.missing)):‹6› 5 f fd ["self"] (pG A):=by
 obtain⟨_,ac0⟩:=T.ac7
 refine F.okX lO (fun vs H Q E h=>?_) (fun cdv A' outer s H vs Q E hr h=>?_)
 ·obtain⟨L,q,wr,bs,rfl,_⟩:=h
  rfl
 ·obtain⟨L,q,wr,bs,rfl,hq,hn,hbs,qq⟩:=h
  refine⟨_,@aA _ _ _ _ _ (@bG _ _ _ _ _ _ _ _ (@aZ _ _ _ _ _ _ _ _ CO (@dH _ _ _ _ _ ‹26› (by rfl)) (@bX _ _ (.int 999999) _ _ (by rfl) ac0 ⟨_,rfl⟩ ⋯) (bK _)) (@aE _ _ _ (@bB _ _ _ _ (@CL _ _ _ _))) (@aR _)) (@aE _ _ _ (@bB _ _ _ _ (@i7 _ _ _ _ _ _ _ _ op_ge (@cF _ _ _ _ _ _ _ _ _ _ _ _ _ _ _ ah8 T.ab6 ‹11› bO ‹26› (@eT _ _ _ _ _ _ _ _ (@bF _ _ _ _ _ _ _ _ _ _ _ ab1 ‹11› a8 (@cT _ _ _ _ _ _ _ ‹26› (@aB _)) ⋯ ⋯ ⋯ ⋯) (@aB _)) ⋯ ⋯ ⋯) ‹26› (bK _)))),?_⟩
  obtain⟨dx,h1⟩:=hq.self
  obtain⟨db,h2⟩:=hq.book.self
  obtain⟨dd,h3⟩:=hq.disk.self
  unfold wT at qq
  refine⟨_,rfl,L.qu,_,dx,_,_,rfl,h1,T.aa0,T.ae8,rfl,L.bk,_,db,_,_,rfl,h2,T.ad4,T.ab5,rfl,_,_,rfl,rfl,_,rfl,?_⟩
  show if decide (q.B.up > 999999)=true then _ else _
  by_cases hu:q.B.up > 999999
  ·rw[if_pos (decide_eq_true hu)]
   rw[decide_eq_true hu]at qq
   exact qq H (aG.refl H)
  ·rw[if_neg (by rw[decide_eq_true_eq]; exact hu)]
   rw[decide_eq_false hu]at qq
   refine cH rfl ?_
   refine⟨_,rfl,L.qu,_,dx,_,_,rfl,h1,T.aa0,T.ak9,rfl,L.dk,dd,_,rfl,h3,rfl,_,rfl,L.qu,_,dx,_,_,rfl,h1,T.aa0,T.ai3,rfl,q.last,rfl,hn,gI (zK hq.disk hn hbs fun H1 S1=>?_)⟩
   exact⟨_,rfl,L.qu,_,dx,_,_,rfl,S1 _ _ h1,T.aa0,T.bo2,rfl,_,_,rfl,rfl,qq H1 S1⟩
theorem dF:FnScope ["self","some","name"] ["self"] (aH pZ):=‹0›
theorem BV {f:Addr} {fd:FuncData} (F:Fun K "begin_segment" "Queue.begin_segment" pZ f fd) (T:TxtQ K mg A) (ab1:(Callee P w K mg base "segment_name" 1 ["segment"] hU)) (ab4:‹7› "row_bytes" 4 ["row"] (eR A.badRow)) (ah9:‹8› A.disk "make" 3 ["self","name"] (oB A.disk A.badName A.there A.stopped)) (ag1:‹8› A.disk "add" 4 ["self","name","some"] (pK A.disk A.badName A.missing A.badRow A.stopped)):‹6› 5 f fd ["self"] (nG A):=by
 refine F.okX dF (fun vs H Q E h=>?_) (fun cdv A' outer s H vs Q E hr h=>?_)
 ·obtain⟨L,q,wr,rfl,_⟩:=h
  rfl
 ·obtain⟨L,q,wr,rfl,hq,hl,hn,hno,hf,hz,u0,u1,qq⟩:=h
  refine⟨_,@aA _ _ _ _ _ (@aW _ _ (1) _ _ _ _ dF.nd (by rfl) (by first | exact Or.inl (by rfl) | exact Or.inr (by rfl)) (@bF _ _ _ _ _ _ _ _ _ _ _ ab4 ‹11› bO (@dN _ _ _ _ _ _ _ (@cB _ _ _ _ _ (@aP _ _ _ _ _ _ _ (@cW _ _ _ _) (@cT _ _ _ _ _ _ _ (@dH _ _ _ _ _ ‹26› (by rfl)) (@dN _ _ _ _ _ _ _ (@cB _ _ _ _ _ (@aB _)) (@aB _))))) (@aB _)) ⋯ ⋯ ⋯ ⋯) ⋯ ⋯) (@aA _ _ _ _ _ (@aW _ _ (2) _ _ _ _ dF.nd (by rfl) (by first | exact Or.inl (by rfl) | exact Or.inr (by rfl)) (@bF _ _ _ _ _ _ _ _ _ _ _ ab1 ‹11› a8 (@cG _ _ _ _ _ _ _ _ (@bJ _ _ _ _ _ _ _ _ eZ ‹26› ‹18›) (@aB _)) ⋯ ⋯ ⋯ ⋯) ⋯ ⋯) (@aA _ _ _ _ _ (aT (cF ah9 T.ab6 ‹11› bO (dH (pv 0) (by rfl)) (aD (pv 2) aB))) (@aA _ _ _ _ _ (aT (cF ag1 T.ab6 ‹11› bO (dH (pv 0) (by rfl)) (aD (pv 2) (aD (pv 1) aB)))) (@aE _ _ _ (@mT _ _ _ _ _ _ _ _ _ _ ‹16› ‹18› Bp))))),?_⟩
  obtain⟨dx,h1⟩:=hq.self
  obtain⟨db,h2⟩:=hq.book.self
  refine⟨_,rfl,L.qu,_,dx,_,_,rfl,h1,T.aa0,T.ae8,rfl,L.bk,_,db,_,_,rfl,h2,T.ad4,T.ab5,rfl,bY,fun p0 hp0=>⟨bY,fun p1 hp1=>?_⟩⟩
  have S1:=aI (o:=.tup []) hp0
  have g0:upd H p0 (.tup []) p0=some (.tup []):=aC
  generalize upd H p0 (.tup [])=H1 at S1 g0 hp1 ⊢
  have S2:=aI (o:=.tup [.str "from",.int q.B.up,.ref p0]) hp1
  have g1:upd H1 p1 (.tup [.str "from",.int q.B.up,.ref p0]) p1=some (.tup [.str "from",.int q.B.up,.ref p0]):=aC
  generalize upd H1 p1 (.tup [.str "from",.int q.B.up,.ref p0])=H2 at S2 g1 ⊢
  have fo:=rY u0 u1
  refine gI (As (r:=("from",q.B.up,[])) ?_ fo fun pb H3 S3 g3=>?_)
  ·unfold cA f9
   simp only[Den,aV]
   exact⟨p1,_,rfl,g1,_,_,rfl,rfl,_,_,rfl,rfl,_,_,rfl,⟨p0,[],rfl,S2 _ _ g0,rfl⟩,rfl⟩
  have S03:=S1.trans (S2.trans S3)
  have hq3:=hq.same S03
  refine⟨_,rfl,L.qu,_,dx,_,_,rfl,S03 _ _ h1,T.aa0,T.ai3,rfl,_,_,rfl,rfl,q.last+1,rfl,hn,?_⟩
  obtain⟨dd,h4⟩:=hq3.disk.self
  refine⟨_,rfl,L.qu,_,dx,_,_,rfl,S03 _ _ h1,T.aa0,T.ak9,rfl,L.dk,dd,_,rfl,h4,rfl,_,rfl,gI (zL hq3.disk hl hn hf hno fun kvs' H4 f4 w4 hD4=>?_)⟩
  obtain⟨hq4,st4⟩:=hq3.toDisk f4 w4 hD4
  obtain⟨dx4,h14⟩:=hq4.self
  obtain⟨dd4,h44⟩:=hq4.disk.self
  have hlk:aO (mkN q.D (aQ (q.last+1))).fs (aQ (q.last+1))=some []:=by
   show aO (q.D.fs++[(aQ (q.last+1),[])]) (aQ (q.last+1))=some []
   rw[o4 _ _ _ _ hno,if_pos rfl]
  refine⟨_,rfl,L.qu,_,dx4,_,_,rfl,h14,T.aa0,T.ak9,rfl,L.dk,dd4,_,rfl,h44,rfl,_,rfl,_,rfl,gI (xM hD4 rfl hn hlk (fun m bs hm=>?_) (st4.tup _ _ g3) (kZ fo) (by rw[cS]; show 7<=100000; decide) fun H5 f5 hD5=>?_)⟩
  ·have hm:aO (q.D.fs++[(aQ (q.last+1),[])]) m=some bs:=hm
   rw[o4 _ _ _ _ hno]at hm
   split at hm
   ·cases hm
    exact zero_le _
   ·exact hz m bs hm
  obtain⟨hq5,st5⟩:=hq4.toDisk f5 (fun b h=>.inl h) hD5
  obtain⟨dx5,h15⟩:=hq5.self
  have hlen:(cV "from" q.B.up []).length=7:=by rw[cS]; rfl
  refine⟨_,rfl,L.qu,_,dx5,_,_,rfl,h15,T.aa0,T.ai3,rfl,_,_,rfl,rfl,dx5,_,h15,by show 10<1000; decide,?_⟩
  obtain⟨hq6,st6⟩:=hq5.fields (dx:=dx5) (u8 q) wr (by rw[hlen]; rfl) rfl rfl
  exact qq _ _ ((aG.step S03).trans (st4.trans (st5.trans st6))) hq6
theorem mZ:FnScope ["self"] ["self"] (aH pW):=‹0›
theorem BS {f:Addr} {fd:FuncData} (F:Fun K "drop_first" "Queue.drop_first" pW f fd) (T:TxtQ K mg A) (ab1:(Callee P w K mg base "segment_name" 1 ["segment"] hU)) (ai0:‹8› A.disk "drop" 4 ["self","name"] (oF A.disk A.badName A.missing A.stopped)):‹6› 5 f fd ["self"] (nE A):=by
 refine F.okX mZ (fun vs H Q E h=>?_) (fun cdv A' outer s H vs Q E hr h=>?_)
 ·obtain⟨L,q,wr,bs,rfl,_⟩:=h
  rfl
 ·obtain⟨L,q,wr,bs,rfl,hq,hl,hn,hb,qq⟩:=h
  refine⟨_,@aA _ _ _ _ _ (aT (cF ai0 T.ab6 ‹11› bO (dH (pv 0) (by rfl)) (eT (bF ab1 ‹11› a8 (cT (dH (pv 0) (by rfl)) aB)) aB))) (@aE _ _ _ (@mT _ _ _ _ _ _ _ _ _ _ ‹16› ‹18› Bp)),?_⟩
  obtain⟨dx,h1⟩:=hq.self
  obtain⟨dd,h4⟩:=hq.disk.self
  refine⟨_,rfl,L.qu,_,dx,_,_,rfl,h1,T.aa0,T.ak9,rfl,L.dk,dd,_,rfl,h4,rfl,_,rfl,L.qu,_,dx,_,_,rfl,h1,T.aa0,T.al0,rfl,q.first,rfl,hn,gI (Dx hq.disk hl hn hb fun kvs' H4 f4 w4 hD4=>?_)⟩
  obtain⟨hq4,st4⟩:=hq.toDisk f4 w4 hD4
  obtain⟨dx4,h14⟩:=hq4.self
  refine⟨_,rfl,L.qu,_,dx4,_,_,rfl,h14,T.aa0,T.al0,rfl,_,_,rfl,rfl,dx4,_,h14,by show 10<1000; decide,?_⟩
  obtain⟨hq6,st6⟩:=hq4.fields (dx:=dx4) { q with D:=Cc q.D (aQ q.first),first:=q.first+1 } wr rfl rfl rfl
  exact qq _ _ (st4.trans st6) hq6
end
theorem oS {L:Pl} {q:Qs} {a b:Bool}:gX "writing" (.bl b) (quF L q a)=quF L q b:=rfl
theorem BE (rs:List Rw) (r:Rw):bP (rs++[r])=bP rs++cV r.1 r.2.1 r.2.2:=by
 unfold bP
 rw[map_append,List.flatten_append]
 simp
theorem wA {rs:List Rw} (h:∀ r∈rs,aS (cA r)=true):(bP rs).length<=68 * rs.length:=by
 unfold bP
 induction rs with
 | nil=>exact le_refl _
 | cons r rs ih=>
  rw[map_cons,flatten_cons,length_append,cS,length_cons]
  have h1:=ih (fun x hx=>h x (mem_cons_of_mem _ hx))
  have h2:=qD (h r mem_cons_self)
  omega
theorem qZ {rs:List Rw} (h:∀ r∈rs,aS (cA r)=true):∀ b∈bP rs,0<=b/\b<=255:=by
 intro b hb
 unfold bP at hb
 rw[List.mem_flatten]at hb
 obtain⟨l,hl,hb⟩:=hb
 rw[mem_map]at hl
 obtain⟨r,hr,rfl⟩:=hl
 exact kZ (h r hr) b hb
theorem iT (q:Qs) (h:aO q.D.fs (aQ (q.last+1))=none) (m:Str):aO (u8 q).D.fs m=if m=aQ (q.last+1) then some (cV "from" q.B.up []) else aO q.D.fs m:=by
 show aO (dY (q.D.fs++[(aQ (q.last+1),[])]) (aQ (q.last+1)) (cV "from" q.B.up [])) m=_
 rw[uE,o4 _ _ _ _ h,o4 _ _ _ _ h]
 by_cases z:m=aQ (q.last+1)
 ·rw[if_pos z,if_pos z,if_pos rfl]
  rfl
 ·rw[if_neg z,if_neg z,if_neg z]
structure NOk (q:Qs):Prop where
 left:q.D.left=none
 last:cZ q.last
 here:aO q.D.fs (aQ q.last)=some (fS q)
 len:∀ n bs,aO q.D.fs n=some bs->bs.length<=100000
theorem uJ {q:Qs} {bs:List Int} (h:aO q.D.fs (aQ q.last)=some bs):fS q=bs:=by
 unfold fS
 rw[h]
 rfl
theorem WOk.next {q:Qs} {k:Nat} (h:WOk q k):NOk (aJ q)/\(aJ q).B=q.B:=by
 unfold aJ
 split
 ·refine⟨⟨rfl,h.nxt,?_,fun n bs e=>?_⟩,rfl⟩
  ·have e:=iT q h.new (aQ (q.last+1))
   rw[if_pos rfl]at e
   have e2:fS (u8 q)=cV "from" q.B.up []:=uJ e
   rw[e2]
   exact e
  ·rw[iT q h.new]at e
   split at e
   ·cases e
    rw[cS]
    decide
   ·exact h.len n bs e
 ·obtain⟨bs,hb⟩:=h.here
  exact⟨⟨h.left,h.last,by rw[uJ hb]; exact hb,h.len⟩,rfl⟩
section
variable {P:Program} {w:World} {K:PySem.W.Frag} {mg:Str->Option Value} {base:Heap} {A:Ad}
theorem eF:FnScope ["self","rows","some","row"] ["self","rows"] (aH pU):=‹0›
theorem BP {f:Addr} {fd:FuncData} {spg:Sp} (F:Fun K "write" "Queue.write" pU f fd) (T:TxtQ K mg A) (ab1:(Callee P w K mg base "segment_name" 1 ["segment"] hU)) (ab4:‹7› "row_bytes" 4 ["row"] (eR A.badRow)) (ad5:‹7› "make_good" 6 ["disk"] spg) (ag1:‹8› A.disk "add" 4 ["self","name","some"] (pK A.disk A.badName A.missing A.badRow A.stopped)) (ag5:‹8› A.book "enter" 3 ["self","row","segment"] (oE A.book A.broken)) (ag2:‹8› A.queue "is_last_full" 5 ["self"] (pG A)) (af5:‹8› A.queue "begin_segment" 5 ["self"] (nG A)):‹6› 7 f fd ["self","rows"] (gC A):=by
 refine F.okX eF (fun vs H Q E h=>?_) (fun cdv A' outer s H vs Q E hr h=>?_)
 ·obtain⟨L,q,a,rs,B',rfl,_⟩:=h
  rfl
 ·obtain⟨L,q,a,rs,B',rfl,hq,ok,na,da,hrs,hfo,qq⟩:=h
  refine⟨_,@aA _ _ _ _ _ (@aW _ _ (2) _ _ _ _ eF.nd (by rfl) (by first | exact Or.inl (by rfl) | exact Or.inr (by rfl)) (@cB _ _ _ _ _ (@aB _)) ⋯ ⋯) (@aA _ _ _ _ _ (@fQ _ _ _ _ _ _ _ _ (m6 eM) (by rfl) (@bU _ K _ _ _ ‹17› ⋯) (@bI _ _ (3) _ eF.nd (by rfl) (by first | exact Or.inl (by rfl) | exact Or.inr (by rfl)) ⋯) (@aE _ _ _ (@aW _ _ (2) _ _ _ _ eF.nd (by rfl) (by first | exact Or.inl (by rfl) | exact Or.inr (by rfl)) (@bJ _ _ _ _ _ _ _ _ lC ‹20› (@bF _ _ _ _ _ _ _ _ _ _ _ ab4 ‹11› bO (@aD _ _ _ _ _ _ ‹21› (@aB _)) ⋯ ⋯ ⋯ ⋯)) ⋯ ⋯)) ⋯) (@aA _ _ _ _ _ (@bG _ _ _ _ _ _ _ _ (@dG _ _ _ ‹26› ⋯) (@aE _ _ _ (aT (bF ad5 ‹11› bO (cT (dH (pv 0) (by rfl)) aB)))) (@aR _)) (@aA _ _ _ _ _ (@cQ _ _ _ _ _ _ _ _ ‹16› (@CL _ _ _ _) (by rfl)) (@aA _ _ _ _ _ (@bG _ _ _ _ _ _ _ _ (@dG _ _ _ (@eJ _ _ _ _ _ _ _ _ _ _ _ _ ag2 T.aa0 ‹11› bO ‹16› ⋯) ⋯) (@aE _ _ _ (aT (eJ af5 T.aa0 ‹11› bO (pv 0)))) (@aR _)) (@aA _ _ _ _ _ (aT (cF ag1 T.ab6 ‹11› bO (dH (pv 0) (by rfl)) (eT (bF ab1 ‹11› a8 (cT (dH (pv 0) (by rfl)) aB)) (aD (pv 2) aB)))) (@aA _ _ _ _ _ (@cQ _ _ _ _ _ _ _ _ ‹16› (@CL _ _ _ _) (by rfl)) (@aE _ _ _ (@fQ _ _ _ _ _ _ _ _ (m6 eM) (by rfl) (@bU _ K _ _ _ ‹17› ⋯) (@bI _ _ (3) _ eF.nd (by rfl) (by first | exact Or.inl (by rfl) | exact Or.inr (by rfl)) ⋯) (@aE _ _ _ (aT (cF ag5 T.ad4 ‹11› bO (dH (pv 0) (by rfl)) (aD (pv 3) (cT (dH (pv 0) (by rfl)) aB))))) ⋯)))))))),?_⟩
  have da':=da
  simp only[Den]at da'
  obtain⟨_,xs,e,ga,dxs⟩:=da'
  cases e
  have lx:=dxs.length
  rw[length_map]at lx
  refine⟨bY,fun p0 hp0=>?_⟩
  have S1:=aI (o:=.tup []) hp0
  have g0:upd H p0 (.tup []) p0=some (.tup []):=aC
  generalize upd H p0 (.tup [])=H1 at S1 g0 ⊢
  refine⟨_,rfl,a,rfl,⟨_,SqL.of (S1 _ _ ga)⟩,?_⟩
  refine kD (bT (K:=K) (SqL.of (S1 _ _ ga))) (fun i σ H'=>aG H1 H'/\∃ pa z3,H' pa=some (.tup ((bP (rs.take i)).map V.int))/\σ = [some (.ref L.qu),some (.ref a),some (.ref pa),z3]) ?i0 (fun _ _ _ h=>h.1) ?_ ?_
  case i0=>exact⟨aG.refl _,p0,none,g0,rfl⟩
  ·rintro i x σ H5 H6 hi ⟨s5,pa,z3,g5,rfl⟩ s6 hx
   obtain⟨d,hd,dn⟩:=dxs.get hx
   rw[getElem?_map]at hd
   cases ej:rs[i]? with
   | none=>rw[ej]at hd; cases hd
   | some r=>
    rw[ej]at hd
    cases (Option.some.inj hd:cA r=d)
    have hr':=hrs r (mem_of_getElem? ej)
    have et:rs.take (i+1)=rs.take i++[r]:=by
     rw[take_succ,ej]
     rfl
    refine⟨_,rfl,_,rfl,gI (As (dn.same (S1.trans (s5.trans s6))) hr' fun pb H7 S7 g7=>?_)⟩
    refine⟨pa,pb,_,_,rfl,rfl,S7 _ _ (s6 _ _ g5),g7,?_,fun p8 H8 S8 g8=>?_⟩
    ·have h1:=wA (rs:=rs.take i) (fun r h=>hrs r (List.mem_of_mem_take h))
     have h2:=qD hr'
     have h3:=ok.ents
     rw[length_map,length_map,cS]
     rw[length_take]at h1
     refine le_trans (m:=100000) ?_ (by decide)
     omega
    ·refine⟨s5.trans (s6.trans (S7.trans S8)),p8,_,?_,rfl⟩
     rw[et,BE,map_append]
     exact g8
  rintro σ H2 ⟨S2,pa,z3,g2,rfl⟩
  rw[show rs.take xs.length=rs by rw[lx,take_length]]at g2
  have S02:=S1.trans S2
  have hq2:=hq.same S02
  obtain⟨dx,h1⟩:=hq2.self
  obtain⟨bs,hbs⟩:=ok.here
  refine⟨_,rfl,L.qu,_,dx,_,_,rfl,h1,T.aa0,T.aj4,rfl,_,rfl,bE (cH rfl ?_)⟩
  refine⟨_,rfl,L.qu,_,dx,_,rfl,h1,T.aa0,T.aj4,by show 10<1000; decide,?_⟩
  rw[oS]
  obtain⟨hq3,st3⟩:=hq2.fields (dx:=dx) q true rfl rfl rfl
  generalize upd H2 L.qu (.ins A.queue dx (quF L q true))=H3 at hq3 st3 ⊢
  obtain⟨dx3,h13⟩:=hq3.self
  have st03:Step L L H H3:=(aG.step S02).trans st3
  have gp3:=st3.tup _ _ g2
  obtain⟨nok,nB⟩:=ok.next
  dsimp only
  refine EA (fun σ' H'=>σ'=[some (.ref L.qu),some (.ref a),some (.ref pa),z3]/\H' pa=some (.tup ((bP rs).map V.int))/\∃ L4,Step L L4 H H'/\QueueW A H' L4 (aJ q) true) (fun n hn=>?_) ?_
  ·refine⟨_,rfl,L.qu,dx3,_,rfl,h13,rfl,L,q,true,bs,rfl,hq3,ok.last,hbs,fun H4 S4=>⟨_,rfl,?_⟩⟩
   have hq4:=hq3.same S4
   obtain⟨dx4,h14⟩:=hq4.self
   have el:fS q=bs:=uJ hbs
   cases hb:wT q bs with
   | true=>
    refine aX ?_
    have hu:q.B.up<=999999:=by
     unfold wT at hb
     simp only[and_eq_true,Bool.not_eq_true',decide_eq_false_iff_not]at hb
     omega
    refine⟨_,rfl,L.qu,dx4,_,rfl,h14,rfl,L,q,true,rfl,hq4,ok.left,ok.nxt,ok.new,lt_trans ok.files (by decide),ok.len,ok.up,hu,fun L5 H5 st5 hq5=>?_⟩
    refine hn _ _ ⟨rfl,st5.tup _ _ (S4 _ _ gp3),L5,st03.trans ((aG.step S4).trans st5),?_⟩
    unfold aJ
    rw[el,if_pos hb]
    exact hq5
   | false=>
    refine bE (cH rfl (hn _ _ ⟨rfl,S4 _ _ gp3,L,st03.trans (aG.step S4),?_⟩))
    unfold aJ
    rw[el,if_neg (by rw[hb]; decide)]
    exact hq4
  rintro _ H5 ⟨rfl,gp5,L5,st5,hq5⟩
  have hent:(aJ q).B.es.length+(aJ q).B.parts.length+rs.length<900:=by rw[nB]; exact ok.ents
  generalize aJ q=r at *
  obtain⟨dx5,h15⟩:=hq5.self
  obtain⟨dd5,h45⟩:=hq5.disk.self
  rw[st5.qu]at h15
  have lb:(bP rs).length<=100000:=by
   have h1:=wA hrs
   have h3:=ok.ents
   omega
  refine⟨_,rfl,L.qu,_,dx5,_,_,rfl,h15,T.aa0,T.ak9,rfl,L5.dk,dd5,_,rfl,h45,rfl,_,rfl,L.qu,_,dx5,_,_,rfl,h15,T.aa0,T.ai3,rfl,r.last,rfl,nok.last,_,rfl,gI (xM hq5.disk nok.left nok.last nok.here nok.len gp5 (qZ hrs) lb fun H6 f6 hD6=>?_)⟩
  obtain⟨hq6,st6⟩:=hq5.toDisk f6 (fun b h=>.inl h) hD6
  obtain⟨dx6,h16⟩:=hq6.self
  have h16:H6 L5.qu=some (.ins A.queue dx6 (quF L5 { r with D:=sS r.D (aQ r.last) (fS r++bP rs) (bP rs).length } true)):=h16
  have h16':=h16
  rw[st5.qu]at h16'
  refine⟨_,rfl,L.qu,_,dx6,_,rfl,h16',T.aa0,T.aj4,by show 10<1000; decide,?_⟩
  rw[oS]
  have hq6:QueueW A H6 L5 { r with D:=sS r.D (aQ r.last) (fS r++bP rs) (bP rs).length } true:=hq6
  have st6:Step L5 L5 H5 H6:=st6
  obtain⟨hq7,st7⟩:=hq6.fields (dx:=dx6) { r with D:=sS r.D (aQ r.last) (fS r++bP rs) (bP rs).length } false rfl rfl rfl
  rw[st5.qu]at hq7 st7
  generalize upd H6 L.qu (.ins A.queue dx6 (quF L5 { r with D:=sS r.D (aQ r.last) (fS r++bP rs) (bP rs).length } false))=H7 at hq7 st7 ⊢
  have st07:Step L L5 H H7:=st5.trans (st6.trans st7)
  have ga7:=st07.frm _ _ ga na
  refine⟨_,rfl,a,rfl,⟨_,SqL.of ga7⟩,?_⟩
  refine kD (H0:=fun c=>if c=a then some (.lst xs) else none) (bT (K:=K) (SqL.of (if_pos rfl))) (fun j σ H'=>∃ Lj Bj z3,Step L Lj H H'/\QueueW A H' Lj (pB r (bP rs) Bj) false/\Bj.es.length+Bj.parts.length<=r.B.es.length+r.B.parts.length+j/\eX r.last r.B rs=eX r.last Bj (rs.drop j)/\σ = [some (.ref L.qu),some (.ref a),some (.ref pa),z3]) ?j0 ?kp ?_ ?_
  case j0=>exact⟨L5,r.B,_,st07,hq7,le_refl _,rfl,rfl⟩
  case kp=>
   rintro j σ H' ⟨Lj,Bj,z,st,_⟩ b o eb
   by_cases y:b=a
   ·subst y
    have eb:some (HO.lst xs)=some o:=by simpa using eb
    rw[<- eb]
    exact st.frm _ _ ga na
   ·have eb:none=some o:=by simpa [y] using eb
    cases eb
  ·rintro j y σ G1 G2 hj ⟨Lj,Bj,z,stj,hqj,hle,hfj,rfl⟩ sG hy
   obtain⟨d,hd,dn⟩:=dxs.get hy
   rw[getElem?_map]at hd
   cases ej:rs[j]? with
   | none=>rw[ej]at hd; cases hd
   | some ro=>
    rw[ej]at hd
    cases (Option.some.inj hd:cA ro=d)
    have jL:j<rs.length:=(List.getElem?_eq_some_iff.mp ej).1
    have edj:rs.drop j=ro::rs.drop (j+1):=by
     rw[drop_eq_getElem_cons jL,(List.getElem?_eq_some_iff.mp ej).2]
    rw[edj]at hfj
    have efold:eX r.last Bj (ro::rs.drop (j+1))=match dJ Bj ro.1 ro.2.1 ro.2.2 r.last with | none=>none | some B'=>eX r.last B' (rs.drop (j+1)):=rfl
    obtain⟨t,b,rfl,gt,gb⟩:=tL dn
    have st2:=stj.trans (aG.step sG)
    have dn':Den G2 (f9 ro.1 ro.2.1 ro.2.2) (.ref t):=Ce st2.tup (mR _ _ _) dn
    have hq2:=hqj.same sG
    obtain⟨dxj,h1j⟩:=hq2.self
    obtain⟨dbj,h2j⟩:=hq2.book.self
    rw[stj.qu]at h1j
    refine⟨_,rfl,L.qu,_,dxj,_,_,rfl,h1j,T.aa0,T.ae8,rfl,Lj.bk,dbj,_,rfl,h2j,rfl,_,rfl,_,rfl,L.qu,_,dxj,_,_,rfl,h1j,T.aa0,T.ai3,rfl,Lj.bk,Lj.de,Lj.dp,t,Bj,ro.1,ro.2.1,r.last,ro.2.2,rfl,hq2.book,dn',hrs ro (mem_of_getElem? ej),by omega,fun B2 hB2 dq H8 f8 hdq hB8=>?_,fun hno=>?_⟩
    ·obtain⟨hq8,st8⟩:=hq2.toBook f8 hdq hB8
     refine⟨_,B2,_,st2.trans st8,hq8,?_,?_,rfl⟩
     ·have:=Bt hB2
      omega
     ·rw[hfj,efold,hB2]
    ·rw[hfj,efold,hno]at hfo
     cases hfo
  ·rintro σ H8 ⟨Lj,Bj,z,stj,hqj,hle,hfj,rfl⟩
   rw[lx,drop_of_length_le (le_refl _)]at hfj
   rw[hfj]at hfo
   cases (Option.some.inj hfo:Bj=B')
   exact qq Lj H8 stj hqj
end
noncomputable abbrev x9:Stmt:=bL (top 52) 1
theorem mW {A:Ad} {H:Hp} {L:Pl} {q:Qs} {wr:Bool} (h:QueueW A H L q wr) {b:Addr} (hb:iC L b):∃ o,H b=some o:=by
 obtain⟨dx,h1⟩:=h.self
 obtain⟨hk,h2,_⟩:=h.held
 obtain⟨db,h3⟩:=h.book.self
 obtain⟨kb,h4,_⟩:=h.book.ent
 obtain⟨ps,h5,_⟩:=h.book.par
 rcases hb with z | z | (z | z | z) | z
 ·exact⟨_,by rw[z]; exact h1⟩
 ·exact⟨_,by rw[z]; exact h2⟩
 ·exact⟨_,by rw[z]; exact h3⟩
 ·exact⟨_,by rw[z]; exact h4⟩
 ·exact⟨_,by rw[z]; exact h5⟩
 ·exact qL h.disk z
noncomputable def FZ (d:PyData):Bool:=aS (.tuple [.str "put",.int 0,d])
def G9 (d:PyData):Prop:=∀ bs,d = .tuple bs->bs.length<=1000
theorem BF {k:Str} {n:Int} {body:List Int} (hk:k = "put"\/k = "part") (h0:0<=n) (h1:n<=999999) (hb:dW body) (hl:body.length<=60):aS (cA (k,n,body))=true:=by
 have hc:kinds.contains k=true:=by rcases hk with rfl | rfl <;> decide +kernel
 show (kinds.contains k && (bN 0 999999 (.int n) && (cD (.tuple (body.map .int)) && fU k (a9 (.tuple (body.map .int))))))=true
 have e1:bN 0 999999 (.int n)=true:=by
  simp only[bN,and_eq_true,decide_eq_true_eq]
  exact⟨h0,h1⟩
 have e2:cD (.tuple (body.map .int))=true:=o8 hb
 have e3:fU k body=true:=by
  unfold fU
  rw[if_pos hk]
  exact decide_eq_true hl
 rw[hc,e1,e2,dP,e3]
 rfl
theorem Dm {d:PyData} (h:FZ d=true):∃ body:List Int,d = .tuple (body.map .int)/\dW body/\body.length<=60:=by
 obtain⟨k,n,bs,e,hk,_,_,hb,hf⟩:=lG h
 injection e with e
 injection e with e1 e
 injection e with _ e
 injection e with e3 e
 injection e1 with e1
 subst e1
 have hb':cD (.tuple bs)=true:=hb
 refine⟨a9 (.tuple bs),?_,nX hb',?_⟩
 ·rw[e3]
  have:bs=(a9 (.tuple bs)).map .int:=by
   rw[all_eq_true]at hb
   show bs=(bs.map _).map _
   rw[map_map]
   conv=>lhs; rw[<- List.map_id bs]
   apply map_congr_left
   intro x hx
   have:=hb x hx
   cases x with
   | int i=>rfl
   | _=>simp [bN]at this
  rw[<- this]
 ·unfold fU at hf
  rw[if_pos (.inl rfl)]at hf
  exact of_decide_eq_true hf
noncomputable def putQ (q:Qs) (body:List Int) (B':Bk):Qs:=pB (aJ q) (bP [("put",q.B.up,body)]) B'
def lS (A:Ad):Sp:=fun vs H Q E=>∃ (L:Pl) (q:Qs) (v:V) (d:PyData),vs=[.ref L.qu,v]/\QueueW A H L q false/\Den H d v/\G9 d/\(FZ d=false->∀ H',aG H H'->E (.ref A.badBody) none H')/\
 (∀ body:List Int,d = .tuple (body.map .int)->dW body->body.length<=60->WOk q 1/\q.B.up<=999999/\∃ B',eX (aJ q).last (aJ q).B [("put",q.B.up,body)]=some B'/\∀ L' H',Step L L' H H'->QueueW A H' L' (putQ q body B') false->Q (.int q.B.up) H')
section
variable {P:Program} {w:World} {K:PySem.W.Frag} {mg:Str->Option Value} {base:Heap} {A:Ad}
theorem oJ:FnScope ["self","body","number"] ["self","body"] (aH x9):=‹0›
theorem Em {f:Addr} {fd:FuncData} (F:Fun K "put" "Queue.put" x9 f fd) (T:TxtQ K mg A) (ai4:‹7› "check_body" 4 ["body"] (jB A)) (ab9:‹8› A.queue "write" 7 ["self","rows"] (gC A)):‹6› 8 f fd ["self","body"] (lS A):=by
 refine F.okX oJ (fun vs H Q E h=>?_) (fun cdv A' outer s H vs Q E hr h=>?_)
 ·obtain⟨L,q,v,d,rfl,_⟩:=h
  rfl
 ·obtain⟨L,q,v,d,rfl,hq,dv,hz,qe,qg⟩:=h
  refine⟨_,@aA _ _ _ _ _ (aT (bF ai4 ‹11› bO (aD (pv 1) aB))) (@aA _ _ _ _ _ (@aW _ _ (2) _ _ _ _ oJ.nd (by rfl) (by first | exact Or.inl (by rfl) | exact Or.inr (by rfl)) (@dH _ _ _ _ _ ‹26› (by rfl)) ⋯ ⋯) (@aA _ _ _ _ _ (aT (cF ab9 T.aa0 ‹11› bO (pv 0) (rT (jF (dN (cB (aP cW (aD (pv 2) (aD (pv 1) aB)))) aB)) aB))) (@aE _ _ _ (@bB _ _ _ _ ‹20›)))),?_⟩
  refine⟨_,rfl,v,d,rfl,dv,(fun bs e=>le_trans (hz bs e) (by decide)),fun hg H1 S1=>?_,fun hb H1 S1=>qe hb H1 S1⟩
  obtain⟨body,rfl,hb,hl⟩:=Dm hg
  obtain⟨ok,hu,B',hfo,qq⟩:=qg body rfl hb hl
  have hrow2:aS (cA ("put",q.B.up,body))=true:=BF (.inl rfl) ok.up hu hb hl
  have hq1:=hq.same S1
  obtain⟨dx,h1⟩:=hq1.self
  obtain⟨db,h2⟩:=hq1.book.self
  refine⟨_,rfl,L.qu,_,dx,_,_,rfl,h1,T.aa0,T.ae8,rfl,L.bk,_,db,_,_,rfl,h2,T.ad4,T.ab5,rfl,?_⟩
  refine⟨_,rfl,L.qu,dx,_,rfl,h1,rfl,_,rfl,_,rfl,bY,fun p1 hp1=>⟨bY,fun p2 hp2=>?_⟩⟩
  have S2:=aI (o:=.tup [.str "put",.int q.B.up,v]) hp1
  have g1:upd H1 p1 (.tup [.str "put",.int q.B.up,v]) p1=some (.tup [.str "put",.int q.B.up,v]):=aC
  generalize upd H1 p1 (.tup [.str "put",.int q.B.up,v])=H2 at S2 g1 hp2 ⊢
  have S3:=aI (o:=.lst [.ref p1]) hp2
  have g2:upd H2 p2 (.lst [.ref p1]) p2=some (.lst [.ref p1]):=aC
  generalize upd H2 p2 (.lst [.ref p1])=H3 at S3 g2 ⊢
  have S13:=S2.trans S3
  have hq3:=hq1.same S13
  refine⟨L,q,p2,[("put",q.B.up,body)],B',rfl,hq3,ok,fun z=>?_,?_,fun r hr'=>?_,hfo,fun L' H' st hq'=>⟨_,rfl,qq L' H' ((aG.step (S1.trans S13)).trans st) hq'⟩⟩
  ·obtain⟨o,e⟩:=mW (hq1.same S2) z
   rw[e]at hp2
   cases hp2
  ·simp only[Den,map_cons,map_nil,aV]
   refine⟨p2,_,rfl,g2,_,_,rfl,?_,rfl⟩
   unfold cA f9
   simp only[Den,aV]
   refine⟨p1,_,rfl,S3 _ _ g1,_,_,rfl,rfl,_,_,rfl,rfl,_,_,rfl,?_,rfl⟩
   have:=dv.same (S1.trans S13)
   simp only[Den]at this
   exact this
  ·rcases mem_cons.mp hr' with rfl | z
   ·exact hrow2
   ·cases z
end
noncomputable abbrev sY:Stmt:=bL (top 52) 3
noncomputable abbrev pX:Stmt:=bL (top 52) 18
noncomputable def nQ (q:Qs) (ms:List Int):List Int:=(ms.filter (mD q.hs)).filter fun n=>ltB (kJ q.B.es n) q.tries
noncomputable def outQ (q:Qs) (n:Int) (x:Str) (B':Bk):Qs:={ pB (aJ q) (bP [("out",n,[])]) B' with hs:=q.hs++[(n,(x,q.now))] }
def jJ (A:Ad):Sp:=fun vs H Q _=>∃ (L:Pl) (q:Qs) (x:Str) (ms:List Int),vs=[.ref L.qu,.str x]/\QueueW A H L q false/\q.B.es.length<500/\q.hs.length<900/\dD rD 6 (.str x)=true/\(x.length<=1000/\o9 x=true)/\List.Perm ms (q.B.es.map (·.1))/\ms.Pairwise (· <= ·)/\
 (nQ q ms=[]->∀ H',aG H H'->Q .non H')/\
 (∀ n r,nQ q ms=n::r->WOk q 1/\0<=n/\n<=999999/\∃ B' e,eX (aJ q).last (aJ q).B [("out",n,[])]=some B'/\aM B'.es n=some e/\∀ p L' H',Step L L' H H'->QueueW A H' L' (outQ q n x B') false->Den H' (vN n e) (.ref p)->Q (.ref p) H')
def nF (A:Ad):Sp:=fun vs H Q _=>∃ (L:Pl) (q:Qs) (x:Str) (n tm:Int),vs=[.ref L.qu,.str x,.int n]/\QueueW A H L q false/\dD rD 6 (.str x)=true/\(x.length<=1000/\o9 x=true)/\0<=n/\n<=999999/\hV q.hs n=some (x,tm)/\∀ H',aG H H'->Q .non H'
theorem wW (ns:List Int):(ns.map V.int).all nC=true:=by
 rw[all_map]
 exact all_eq_true.mpr fun _ _=>rfl
theorem AU (n:Int) (ns:List Int):inV (.int n) (ns.map V.int)=decide (n∈ns):=by
 unfold inV
 rw[List.any_map]
 by_cases h:n∈ns
 ·rw[decide_eq_true h,List.any_eq_true]
  exact⟨n,h,beq_self_eq_true n⟩
 ·rw[decide_eq_false h,<- Bool.not_eq_true,List.any_eq_true]
  rintro ⟨x,hx,e⟩
  have e:(x == n)=true:=e
  rw[beq_iff_eq]at e
  rw[e]at hx
  exact h hx
theorem sB {k:Str} {n:Int} (hk:k = "out"\/k = "new"\/k = "done") (h0:0<=n) (h1:n<=999999):aS (cA (k,n,[]))=true:=by
 have e1:bN 0 999999 (.int n)=true:=by
  simp only[bN,and_eq_true,decide_eq_true_eq]
  exact⟨h0,h1⟩
 show (kinds.contains k && (bN 0 999999 (.int n) && (cD (.tuple []) && fU k (a9 (.tuple [])))))=true
 rw[e1]
 rcases hk with rfl | rfl | rfl <;> decide +kernel
theorem QueueW.toHeld {H:Hp} {L:Pl} {q:Qs} {wr:Bool} {A:Ad} (h:QueueW A H L q wr) {hk':List (Key × V)} {hs':List (Int × (Str × Int))} (r:HoR H hs' hk'):QueueW A (upd H L.hd (.dK hk')) L { q with hs:=hs' } wr/\Step L L H (upd H L.hd (.dK hk')):=by
 obtain⟨dx,h1⟩:=h.self
 obtain⟨hk,h2,h3⟩:=h.held
 have t:gA H (upd H L.hd (.dK hk')):=iV h2 (fun xs z=>by cases z)
 refine⟨⟨⟨dx,by rw[aF (fun z=>h.a_hd.1 z.symm)]; exact h1⟩,h.disk.keep fun b o e hb=>?_,h.book.keep (fun b o e hb=>?_) t,⟨hk',aC,r.t t⟩,h.a_bd,h.a_qu,h.a_hd⟩,⟨rfl,rfl,fun b o e nb=>by rw[aF (fun z=>nb (.inr (.inl z)))]; exact e,fun b hb=>.inl hb,t⟩⟩
 ·rw[aF (fun z=>by rw[z]at hb; exact h.a_hd.2.2 hb)]
  exact e
 ·rw[aF (fun z=>by rw[z]at hb; exact h.a_hd.2.1 hb)]
  exact e
theorem gY (q:Qs):(aJ q).now=q.now/\(aJ q).hs=q.hs/\(aJ q).tries=q.tries/\(aJ q).B=q.B:=by
 unfold aJ
 split <;> exact⟨rfl,rfl,rfl,rfl⟩
section
variable {P:Program} {w:World} {K:PySem.W.Frag} {mg:Str->Option Value} {base:Heap} {A:Ad}
theorem jC:FnScope ["self","hand","numbers","number"] ["self","hand"] (aH sY):=‹0›
theorem C9 {f:Addr} {fd:FuncData} (F:Fun K "take" "Queue.take" sY f fd) (T:TxtQ K mg A) (ac6:‹7› "check_hand" 2 ["hand"] (gM A)) (ad9:‹8› A.book "letter" 1 ["self","number"] (jM A.book)) (aq0:‹8› A.queue "ready" 4 ["self"] (pF A ltB)) (ab9:‹8› A.queue "write" 7 ["self","rows"] (gC A)):‹6› 8 f fd ["self","hand"] (jJ A):=by
 refine F.okX jC (fun vs H Q E h=>?_) (fun cdv A' outer s H vs Q E hr h=>?_)
 ·obtain⟨L,q,x,ms,rfl,_⟩:=h
  rfl
 ·obtain⟨L,q,x,ms,rfl,hq,hl,hh,hw,hz,perm,pw,qn,qs⟩:=h
  refine⟨_,@aA _ _ _ _ _ (aT (bF ac6 ‹11› bO (aD (pv 1) aB))) (@aA _ _ _ _ _ (@aW _ _ (2) _ _ _ _ jC.nd (by rfl) (by first | exact Or.inl (by rfl) | exact Or.inr (by rfl)) (@eJ _ _ _ _ _ _ _ _ _ _ _ _ aq0 T.aa0 ‹11› a8 ‹16› ⋯) ⋯ ⋯) (@aA _ _ _ _ _ (@bG _ _ _ _ _ _ _ _ (@cP _ _ _ _ (@jY _ K _ _ ‹20› ⋯ ⋯)) (@aE _ _ _ (@bB _ _ _ _ (@lB _ _ _))) (@aR _)) (@aA _ _ _ _ _ (@aW _ _ (3) _ _ _ _ jC.nd (by rfl) (by first | exact Or.inl (by rfl) | exact Or.inr (by rfl)) (@cX _ _ _ _ _ _ _ (fT K) ‹20› ‹18› (fun _ _=>rfl)) ⋯ ⋯) (@aA _ _ _ _ _ (aT (cF ab9 T.aa0 ‹11› bO (pv 0) (rT (jF (dN (cB (aP cW (aD (pv 3) (dN (cB aB) aB)))) aB)) aB))) (@aA _ _ _ _ _ (@i5 _ _ _ _ _ _ _ _ _ (hu1 hr.units) ‹26› ‹21› (@cB _ _ _ _ _ (@aD _ _ _ _ _ _ ‹17› (@cT _ _ _ _ _ _ _ ‹26› (@aB _)))) (by rfl)) (@aE _ _ _ (@bB _ _ _ _ (@cF _ _ _ _ _ _ _ _ _ _ _ _ _ _ _ ad9 T.ad4 ‹11› a8 ‹26› (@aD _ _ _ _ _ _ ‹21› (@aB _)) ⋯ ⋯ ⋯)))))))),?_⟩
  refine⟨_,rfl,.str x,.str x,rfl,by simp only[Den],(fun y e=>by injection e with e; rw[<- e]; exact hz),fun _ H1 S1=>?_,(fun z=>by rw[hw]at z; cases z)⟩
  have hq1:=hq.same S1
  obtain⟨dx,h1⟩:=hq1.self
  refine⟨_,rfl,L.qu,dx,_,rfl,h1,rfl,L,q,rfl,hq1,hl,fun ms' perm' pw' p H2 S2 hp g2=>?_⟩
  have em:ms'=ms:=eA (perm'.trans perm.symm) pw' pw
  subst em
  have g2:H2 p=some (.lst ((nQ q ms').map V.int)):=g2
  cases er:nQ q ms' with
  | nil=>
   rw[er]at g2
   exact⟨_,rfl,p,_,rfl,SqL.of g2,aX (qn er H2 (S1.trans S2))⟩
  | cons n r=>
   rw[er]at g2
   obtain⟨ok,n0,n9,B',e,hfo,hle,qq⟩:=qs n r er
   refine⟨_,rfl,p,_,rfl,SqL.of g2,bE (cH rfl ?_)⟩
   refine⟨_,rfl,p,_,_,.int n,rfl,rfl,SqL.of g2,bZ (by decide) rfl,?_⟩
   have S12:=S1.trans S2
   have hq2:=hq.same S12
   obtain⟨dx2,h2⟩:=hq2.self
   refine⟨_,rfl,L.qu,dx2,_,rfl,h2,rfl,_,rfl,bY,fun p0 hp0=>⟨bY,fun p1 hp1=>⟨bY,fun p2 hp2=>?_⟩⟩⟩
   have V0:=aI (o:=.tup []) hp0
   have v0:upd H2 p0 (.tup []) p0=some (.tup []):=aC
   generalize upd H2 p0 (.tup [])=H3 at V0 v0 hp1 hp2 ⊢
   have V1:=aI (o:=.tup [.str "out",.int n,.ref p0]) hp1
   have v1:upd H3 p1 (.tup [.str "out",.int n,.ref p0]) p1=some (.tup [.str "out",.int n,.ref p0]):=aC
   generalize upd H3 p1 (.tup [.str "out",.int n,.ref p0])=H4 at V1 v1 hp2 ⊢
   have V2:=aI (o:=.lst [.ref p1]) hp2
   have v2:upd H4 p2 (.lst [.ref p1]) p2=some (.lst [.ref p1]):=aC
   generalize upd H4 p2 (.lst [.ref p1])=H5 at V2 v2 ⊢
   have S25:=V0.trans (V1.trans V2)
   have hq5:=hq2.same S25
   refine⟨L,q,p2,[("out",n,[])],B',rfl,hq5,ok,fun z=>?_,?_,fun r hr'=>?_,hfo,fun L' H6 st hq6=>?_⟩
   ·obtain⟨o,e⟩:=mW (hq2.same (V0.trans V1)) z
    rw[e]at hp2
    cases hp2
   ·simp only[Den,map_cons,map_nil,aV]
    refine⟨p2,_,rfl,v2,_,_,rfl,?_,rfl⟩
    unfold cA f9
    simp only[Den,aV,map_nil]
    exact⟨p1,_,rfl,V2 _ _ v1,_,_,rfl,rfl,_,_,rfl,rfl,_,_,rfl,⟨p0,_,rfl,V2 _ _ (V1 _ _ v0),rfl⟩,rfl⟩
   ·rw[mem_singleton.mp hr']
    exact sB (.inl rfl) n0 n9
   obtain⟨nn,nh,_,_⟩:=gY q
   have st05:=(aG.step (S12.trans S25)).trans st
   obtain⟨dx6,h6⟩:=hq6.self
   obtain⟨hk,g6,r6⟩:=hq6.held
   rw[show (pB (aJ q) (bP [("out",n,[])]) B').hs=q.hs from nh]at r6
   rw[st.qu]at h6
   refine⟨_,rfl,_,rfl,L.qu,_,dx6,_,_,rfl,h6,T.aa0,T.bu5,rfl,bY,fun pt hpt=>?_⟩
   have nowE:(pB (aJ q) (bP [("out",n,[])]) B').now=q.now:=nn
   rw[nowE]
   have V6:=aI (o:=.tup [.str x,.int q.now]) hpt
   have v6:upd H6 pt (.tup [.str x,.int q.now]) pt=some (.tup [.str x,.int q.now]):=aC
   generalize upd H6 pt (.tup [.str x,.int q.now])=H7 at V6 v6 ⊢
   have fr:hV q.hs n=none:=by
    have hm:n∈nQ q ms':=by rw[er]; exact mem_cons_self
    have:=(mem_filter.mp (mem_filter.mp hm).1).2
    exact Option.isNone_iff_eq_none.mp this
   have ev:=(r6.look (n:=n)).1 fr
   have ep:iB hk (Sum.inl n) (V.ref pt)=hk++[(Sum.inl n,V.ref pt)]:=by
    unfold iB
    rw[nY,ev]
    rfl
   have hkl:hk.length<sizeLine:=by
    rw[r6.len]
    exact lt_trans hh (by decide)
   refine⟨_,rfl,L.qu,_,dx6,_,_,rfl,V6 _ _ h6,T.aa0,T.af8,rfl,_,rfl,L'.hd,_,rfl,rP.k (k:=Sum.inl n) (V6 _ _ g6) hkl,?_⟩
   rw[ep]
   obtain⟨hq8,st8⟩:=(hq6.same V6).toHeld (HoR.snoc v6 (r6.t (aG.tup V6)):HoR H7 (q.hs++[(n,(x,q.now))]) (hk++[(Sum.inl n,.ref pt)]))
   generalize upd H7 L'.hd (.dK (hk++[(Sum.inl n,.ref pt)]))=H8 at hq8 st8 ⊢
   obtain⟨dx8,h8⟩:=hq8.self
   obtain⟨db8,hb8⟩:=hq8.book.self
   rw[st.qu]at h8
   refine⟨_,rfl,L.qu,_,dx8,_,_,rfl,h8,T.aa0,T.ae8,rfl,L'.bk,db8,_,rfl,hb8,rfl,_,rfl,L'.bk,L'.de,L'.dp,B',n,e,rfl,hq8.book,hle,fun pr H9 S9 d9=>?_⟩
   exact qq pr L' H9 (st05.trans ((aG.step V6).trans (st8.trans (aG.step S9)))) (hq8.same S9) d9
theorem m5:FnScope ["self","hand","number"] ["self","hand","number"] (aH pX):=‹0›
theorem BT {f:Addr} {fd:FuncData} (F:Fun K "check_held" "Queue.check_held" pX f fd) (T:TxtQ K mg A) (ab2:(Callee P w K mg base "is_number" 1 ["thing", "least", "most"] kP)) (ac6:‹7› "check_hand" 2 ["hand"] (gM A)):‹6› 3 f fd ["self","hand","number"] (nF A):=by
 obtain⟨_,ac0⟩:=T.ac7
 refine F.okX m5 (fun vs H Q E h=>?_) (fun cdv A' outer s H vs Q E hr h=>?_)
 ·obtain⟨L,q,x,n,tm,rfl,_⟩:=h
  rfl
 ·obtain⟨L,q,x,n,tm,rfl,hq,hw,hz,n0,n9,el,qq⟩:=h
  refine⟨_,@aA _ _ _ _ _ (aT (bF ac6 ‹11› bO (aD (pv 1) aB))) (@aA _ _ _ _ _ (@bG _ _ _ _ _ _ _ _ (@PW.pt _ _ _ (@q0 _ _ _ _ _ _ _ (@cP _ _ _ _ (@dG _ _ _ (@bF _ _ _ _ _ _ _ _ _ _ _ ab2 ‹11› a8 (@aD _ _ _ _ _ _ ‹20› (@aP _ _ _ _ _ _ _ ‹18› (@aD _ _ _ _ _ _ (@bX _ _ (.int 999999) _ _ (by rfl) ac0 ⟨_,rfl⟩ ⋯) (@aB _)))) ⋯ ⋯ ⋯ ⋯) ⋯)) (@nR _ _ _ _ (@tR _ _ _ _ _ _ (@qJ _ _ _ _ _ (hu1 hr.units) ‹20› ‹26›) ⋯)))) (@aE _ _ _ (@dM _ _ _ _ _ _ _ _ _ _ fG (by rfl) T.ag8 (by rfl) T.ax1 (@aP _ _ _ _ _ _ _ (@cW _ _ _ _) (@aB _)) ⋯ ⋯ ⋯)) (@aR _)) (@aE _ _ _ (@bG _ _ _ _ _ _ _ _ (@aZ _ _ _ _ _ _ _ _ CM (@cX _ _ _ _ _ _ _ (cJ K) (@i6 _ _ _ _ _ _ (hu1 hr.units) ‹26› ‹20› (fun _ _=>rfl)) ‹18› (fun _ _=>rfl)) ‹17› (bK _)) (@aE _ _ _ (@dM _ _ _ _ _ _ _ _ _ _ fG (by rfl) T.ag8 (by rfl) T.ax1 (@aP _ _ _ _ _ _ _ (@cW _ _ _ _) (@aB _)) ⋯ ⋯ ⋯)) (@aR _)))),?_⟩
  refine⟨_,rfl,.str x,.str x,rfl,by simp only[Den],(fun y e=>by injection e with e; rw[<- e]; exact hz),fun _ H1 S1=>?_,(fun z=>by rw[hw]at z; cases z)⟩
  have hq1:=hq.same S1
  obtain⟨dx,h1⟩:=hq1.self
  obtain⟨hk,g1,r1⟩:=hq1.held
  have isn:bN 0 999999 (.int n)=true:=by
   simp only[bN,and_eq_true,decide_eq_true_eq]
   exact⟨n0,n9⟩
  obtain⟨t,ev,gt⟩:=(r1.look (n:=n)).2 x tm el
  have dg:fN H1 L.hd (.int n) (some (.ref t)):=by
   have:=fN.k (k:=Sum.inl n) g1
   rw[ev]at this
   exact this
  refine⟨_,rfl,.int n,.int n,0,999999,rfl,by simp only[Den],_,rfl,?_⟩
  rw[isn]
  refine bE ⟨_,rfl,_,rfl,L.qu,_,dx,_,_,rfl,h1,T.aa0,T.af8,rfl,L.hd,_,rfl,dg,_,rfl,bE (cH rfl ?_)⟩
  refine⟨_,rfl,L.qu,_,dx,_,_,rfl,h1,T.aa0,T.af8,rfl,_,rfl,L.hd,_,rfl,dg,?_⟩
  refine⟨t,_,_,.str x,rfl,rfl,SqT.of gt,bZ (by decide) rfl,_,rfl,rfl,_,rfl,?_⟩
  rw[decide_eq_true rfl]
  exact bE (qq H1 S1)
end
noncomputable abbrev tF:Stmt:=bL (top 52) 4
noncomputable abbrev l7:Stmt:=bL (top 35) 7
noncomputable def Gz (q:Qs) (n:Int) (B':Bk):Qs:={ pB (aJ q) (bP [("done",n,[])]) B' with hs:=uW q.hs n }
noncomputable def fX (q:Qs):Qs:={ q with D:=Cc q.D (aQ q.first),first:=q.first+1 }
def jK (A:Ad):Sp:=fun vs H Q _=>∃ (L:Pl) (q:Qs) (x:Str) (n tm:Int) (B':Bk),vs=[.ref L.qu,.str x,.int n]/\QueueW A H L q false/\dD rD 6 (.str x)=true/\(x.length<=1000/\o9 x=true)/\0<=n/\n<=999999/\hV q.hs n=some (x,tm)/\WOk q 1/\eX (aJ q).last (aJ q).B [("done",n,[])]=some B'/\∀ L' H',Step L L' H H'->QueueW A H' L' (Gz q n B') false->Q .non H'
noncomputable def gT (es:List (Int × Ent)) (n:Int):Int:=((aM es n).getD ([],0,0)).2.2
def nI (C:Addr):Sp:=fun vs H Q _=>∃ (bk de dp:Addr) (B:Bk) (seg:Int),vs=[.ref bk,.int seg]/\BookAt C H bk de dp B/\B.es.length<500/\∀ ms,List.Perm ms (B.es.map (·.1))->ms.Pairwise (· <= ·)->∀ p H',aG H H'->H p=none->H' p=some (.lst ((ms.filter fun n=>decide (gT B.es n=seg)).map V.int))->Q (.ref p) H'
section
variable {P:Program} {w:World} {K:PySem.W.Frag} {mg:Str->Option Value} {base:Heap} {A:Ad}
theorem vF:FnScope ["self","hand","number"] ["self","hand","number"] (aH tF):=‹0›
theorem DC {f:Addr} {fd:FuncData} (F:Fun K "done" "Queue.done" tF f fd) (T:TxtQ K mg A) (ah2:‹8› A.queue "check_held" 3 ["self","hand","number"] (nF A)) (ab9:‹8› A.queue "write" 7 ["self","rows"] (gC A)):‹6› 8 f fd ["self","hand","number"] (jK A):=by
 refine F.okX vF (fun vs H Q E h=>?_) (fun cdv A' outer s H vs Q E hr h=>?_)
 ·obtain⟨L,q,x,n,tm,B',rfl,_⟩:=h
  rfl
 ·obtain⟨L,q,x,n,tm,B',rfl,hq,hw,hz,n0,n9,el,ok,hfo,qq⟩:=h
  refine⟨_,@aA _ _ _ _ _ (aT (cF ah2 T.aa0 ‹11› bO (pv 0) (aD (pv 1) (aD (pv 2) aB)))) (@aA _ _ _ _ _ (aT (cF ab9 T.aa0 ‹11› bO (pv 0) (rT (jF (dN (cB (aP cW (aD (pv 2) (dN (cB aB) aB)))) aB)) aB))) (@aE _ _ _ (aT (nT K PySem.F.plainAttrs_dict PySem.F.slot_dict_pop PySem.F.type_dict_pop yS (dH (pv 0) (by rfl)) (aD (pv 2) aB))))),?_⟩
  obtain⟨dx0,h0⟩:=hq.self
  refine⟨_,rfl,L.qu,dx0,_,rfl,h0,rfl,_,rfl,_,rfl,L,q,x,n,tm,rfl,hq,hw,hz,n0,n9,el,fun H2 S2=>?_⟩
  have hq2:=hq.same S2
  obtain⟨dx2,h2⟩:=hq2.self
  refine⟨_,rfl,L.qu,dx2,_,rfl,h2,rfl,_,rfl,bY,fun p0 hp0=>⟨bY,fun p1 hp1=>⟨bY,fun p2 hp2=>?_⟩⟩⟩
  have V0:=aI (o:=.tup []) hp0
  have v0:upd H2 p0 (.tup []) p0=some (.tup []):=aC
  generalize upd H2 p0 (.tup [])=H3 at V0 v0 hp1 hp2 ⊢
  have V1:=aI (o:=.tup [.str "done",.int n,.ref p0]) hp1
  have v1:upd H3 p1 (.tup [.str "done",.int n,.ref p0]) p1=some (.tup [.str "done",.int n,.ref p0]):=aC
  generalize upd H3 p1 (.tup [.str "done",.int n,.ref p0])=H4 at V1 v1 hp2 ⊢
  have V2:=aI (o:=.lst [.ref p1]) hp2
  have v2:upd H4 p2 (.lst [.ref p1]) p2=some (.lst [.ref p1]):=aC
  generalize upd H4 p2 (.lst [.ref p1])=H5 at V2 v2 ⊢
  have S25:=V0.trans (V1.trans V2)
  have hq5:=hq2.same S25
  refine⟨L,q,p2,[("done",n,[])],B',rfl,hq5,ok,fun z=>?_,?_,fun r hr'=>?_,hfo,fun L' H6 st hq6=>?_⟩
  ·obtain⟨o,e⟩:=mW (hq2.same (V0.trans V1)) z
   rw[e]at hp2
   cases hp2
  ·simp only[Den,map_cons,map_nil,aV]
   refine⟨p2,_,rfl,v2,_,_,rfl,?_,rfl⟩
   unfold cA f9
   simp only[Den,aV,map_nil]
   exact⟨p1,_,rfl,V2 _ _ v1,_,_,rfl,rfl,_,_,rfl,rfl,_,_,rfl,⟨p0,_,rfl,V2 _ _ (V1 _ _ v0),rfl⟩,rfl⟩
  ·rw[mem_singleton.mp hr']
   exact sB (.inr (.inr rfl)) n0 n9
  obtain⟨dx6,h6⟩:=hq6.self
  obtain⟨hk,g6,r6⟩:=hq6.held
  rw[show (pB (aJ q) (bP [("done",n,[])]) B').hs=q.hs from (gY q).2.1]at r6
  obtain⟨t,ev,gt⟩:=(r6.look (n:=n)).2 x tm el
  rw[st.qu]at h6
  refine⟨_,rfl,L.qu,_,dx6,_,_,rfl,h6,T.aa0,T.af8,rfl,.inr (.inr (.inl ⟨rfl,.inl ⟨_,g6⟩⟩)),_,rfl,L'.hd,hk,Sum.inl n,_,rfl,rfl,g6,ev,?_⟩
  obtain⟨hq7,st7⟩:=hq6.toHeld (r6.drop (n:=n))
  exact qq _ _ ((aG.step (S2.trans S25)).trans (st.trans st7)) hq7
theorem nM:FnScope ["self","segment"] ["self","segment"] (aH l7):=‹0›
theorem yR {f:Addr} {fd:FuncData} {aa8 aa1 aa5 aa2:Addr} (F:Fun K "numbers_in" "Book.numbers_in" l7 f fd) (T:(TxtK K mg aa8 aa1 aa5 aa2)):‹6› 1 f fd ["self","segment"] (nI aa2):=by
 refine F.okX nM (fun vs H Q E h=>?_) (fun cdv A' outer s H vs Q E hr h=>?_)
 ·obtain⟨bk,de,dp,B,seg,rfl,_⟩:=h
  rfl
 ·obtain⟨bk,de,dp,B,seg,rfl,hB,hl,qq⟩:=h
  refine⟨_,@aE _ _ _ (@bB _ _ _ _ (@dI _ _ _ _ _ _ _ _ _ _ _ ["number"] [("self",0),("segment",1)] (by rfl) (@bU _ K _ _ _ (@aY _ _ _ _ _ _ _ _ _ (@lJ _ (by rfl)) (by rfl) T.ac9 gJ (@cT _ _ _ _ _ _ _ ‹26› (@aB _)) ⋯ ⋯ ⋯ ⋯) ⋯) (fun C s2 H2 ex=>(@bI _ _ (0) _ (show List.Nodup (["number","self","segment"]:List Str) by decide +kernel) (by rfl) (Or.inl (by rfl)) ⋯)) (fun C s2 H2 ex=>(@oV _ _ _ (@aZ _ _ _ _ _ _ _ _ iQ (@cX _ _ _ _ _ _ _ (cJ K) (@i6 _ _ _ _ _ _ (hu1 hr.units) (@yG K _ _ _ _ _ ‹17› (by rfl) ⋯) ‹16› (fun _ _=>rfl)) ‹18› (fun _ _=>rfl)) ‹20› (bK _)))) (fun C s2 H2 ex=>‹16›) ⋯ ⋯ ⋯ ⋯)),?_⟩
  obtain⟨dx,h1⟩:=hB.self
  obtain⟨kvs,h2,h3⟩:=hB.ent
  refine⟨_,rfl,bk,_,dx,_,_,rfl,h1,T.cl,T.ab7,rfl,de,kvs,_,rfl,h2,h3.keys,by rw[length_map]; omega,fun p ms perm pw hp=>?_⟩
  have S1:=aI (o:=.lst (ms.map .int)) hp
  have g1:upd H p (.lst (ms.map .int)) p=some (.lst (ms.map .int)):=aC
  generalize upd H p (.lst (ms.map .int))=H1 at S1 g1 ⊢
  have lm:(ms.map V.int).length=ms.length:=length_map _
  have pl:=perm.length_eq
  rw[length_map]at pl
  refine⟨p,rfl,⟨_,SqL.of g1⟩,?_⟩
  refine mE (bT (K:=K) (SqL.of g1)) (by rw[lm,pl]; exact le_of_lt (lt_trans hl (by decide))) (fun j=>decide (gT B.es (ms.getD j 0)=seg)) (fun j=>V.int (ms.getD j 0)) (fun σ=>∃ z,σ = [z,some (.ref bk),some (.int seg)]) ⟨none,rfl⟩ ?_ ?_
  ·intro j x σc H3 hj hσ s3 hx Q1 Q2 Q3 h2' h3'
   obtain⟨z,rfl⟩:=hσ
   rw[getElem?_map]at hx
   cases e:ms[j]? with
   | none=>rw[e]at hx; cases hx
   | some n=>
    rw[e]at hx
    cases hx
    have eg:ms.getD j 0=n:=by rw[getD_eq_getElem?_getD,e]; rfl
    rw[eg]at h2' h3'
    have hin:n∈B.es.map (·.1):=perm.mem_iff.mp (mem_of_getElem? e)
    obtain⟨en,hen⟩:=eO hin
    have S13:aG H H3:=S1.trans s3
    have hv:=h3.val (n:=n)
    rw[hen]at hv
    obtain⟨v,hv1,t,b,rfl,gt,gb⟩:=hv
    have dg:fN H3 de (.int n) (some (.ref t)):=by
     have:=fN.k (k:=Sum.inl n) (S13 _ _ h2)
     rw[hv1]at this
     exact this
    have es:gT B.es n=en.2.2:=by
     unfold gT
     rw[hen]
     rfl
    rw[es]at h2' h3'
    refine⟨_,rfl,bk,_,dx,_,_,rfl,S13 _ _ h1,T.cl,T.ab7,rfl,_,rfl,de,_,rfl,dg,t,_,_,.int en.2.2,rfl,rfl,SqT.of (S13 _ _ gt),bZ (by decide) rfl,_,rfl,rfl,_,rfl,?_⟩
    by_cases y:en.2.2=seg
    ·rw[decide_eq_true (show V.int en.2.2=V.int seg by rw[y])]
     exact aX ⟨_,rfl,h2' _ ⟨_,rfl⟩ (decide_eq_true y)⟩
    ·rw[mY y]
     exact bE (h3' _ ⟨_,rfl⟩ (decide_eq_false y))
  intro D H2 hD S2 g2
  rw[lm,uS ms (fun n=>decide (gT B.es n=seg))]at g2
  exact qq ms perm pw D H2 (S1.trans S2) (S1.free hD) g2
end
theorem jP {a b r:TS} {D:Ends} {σ : St} {H:Hp} (h:∀ R,R=r->hW a (hW b R) D σ H):hW a (hW b r) D σ H:=h r rfl
theorem zP {a b c d r:TS} {D:Ends} {σ : St} {H:Hp} (h:∀ R,R=r->hW a (hW b (hW c (hW d R))) D σ H):hW a (hW b (hW c (hW d r))) D σ H:=h r rfl
theorem hG {J:It} {H0 H:Hp} {n:Nat} {Y:Nat->V->Hp->Prop} {g:TG} {tb:TS} {D:Ends} {σ : St} (S:Src J H0 n Y) (Pv:Nat->St->Hp->Prop) (h0:Pv 0 σ H) (keep:∀ i σ H',Pv i σ H'->aG H0 H')
  (step:∀ (D':Ends) i x σ H1 H2,(∀ σ H,Pv (i+1) σ H->D'.nx σ H)->D'.rt=D.rt->i<n->Pv i σ H1->aG H1 H2->Y i x H2->g x σ H2 fun σ2 H3=>tb D' σ2 H3) (fin:∀ σ H',Pv n σ H'->D.nx σ H') :
  ∃ W:Nat->Nat->St->Hp->Prop,(∃ m,W 0 m σ H)/\∀ i m σ H,W i m σ H->
   (J.stop i H/\D.nx σ H)\/(J.go i H/\∃ N:St->Hp->Prop,(∀ σ' H',N σ' H'->∃ m',m'<m/\W (i+1) m' σ' H')/\∀ x H',J.yld i H x H'->g x σ H' fun σ2 H2=>tb { D with nx:=N,ct:=N,bk:=D.nx } σ2 H2):=
 kD S Pv h0 keep (fun i x σ H1 H2 h1 h2 h3 h4=>step { D with nx:=Pv (i+1),ct:=Pv (i+1),bk:=D.nx } i x σ H1 H2 (fun _ _ h=>h) rfl h1 h2 h3 h4) fin
noncomputable abbrev pY:Stmt:=bL (top 52) 16
theorem Ht:bootBuiltins "min" = some (.builtin "min"):=by decide +kernel
noncomputable def dZ (n:Int) (e:Ent):Rw:=("carried",n,(if (9:Int)<e.2.1 then 9 else e.2.1)::e.1)
def iK (A:Ad):Sp:=fun vs H Q _=>∃ (L:Pl) (q:Qs) (I:Nat->Qs->Prop) (ns:List Int),vs=[.ref L.qu]/\QueueW A H L q false/\q.B.es.length<500/\(q.first=q.last->Q .non H)/\(q.first≠q.last->(∀ ms,List.Perm ms (q.B.es.map (·.1))->ms.Pairwise (· <= ·)->(ms.filter fun n=>decide (gT q.B.es n=q.first))=ns)/\I 0 q/\
 (∀ i n q',ns[i]? = some n->I i q'->∃ e B',aM q'.B.es n=some e/\aS (cA (dZ n e))=true/\WOk q' 1/\eX (aJ q').last (aJ q').B [dZ n e]=some B'/\I (i+1) (pB (aJ q') (bP [dZ n e]) B'))/\
 ∀ q',I ns.length q'->q'.D.left=none/\cZ q'.first/\(∃ bs,aO q'.D.fs (aQ q'.first)=some bs)/\∀ L' H',Step L L' H H'->QueueW A H' L' (fX q') false->Q (.int (ns.length:Int)) H')
section
variable {P:Program} {w:World} {K:PySem.W.Frag} {mg:Str->Option Value} {base:Heap} {A:Ad}
theorem eG:FnScope ["self","numbers","number","letter","times"] ["self"] (aH pY):=‹0›
theorem BU {f:Addr} {fd:FuncData} (F:Fun K "carry" "Queue.carry" pY f fd) (T:TxtQ K mg A) (ah3:‹8› A.book "numbers_in" 1 ["self","segment"] (nI A.book)) (ad9:‹8› A.book "letter" 1 ["self","number"] (jM A.book)) (ah4:‹8› A.queue "drop_first" 5 ["self"] (nE A)) (ab9:‹8› A.queue "write" 7 ["self","rows"] (gC A)):‹6› 8 f fd ["self"] (iK A):=by
 obtain⟨_,af4⟩:=T.af9
 refine F.okX eG (fun vs H Q E h=>?_) (fun cdv A' outer s H vs Q E hr h=>?_)
 ·obtain⟨L,q,I,ns,rfl,_⟩:=h
  rfl
 ·obtain⟨L,q,I,ns,rfl,hq,he,q1,q2⟩:=h
  refine⟨_,@aA _ _ _ _ _ (@bG _ _ _ _ _ _ _ _ (@aZ _ _ _ _ _ _ _ _ iQ ‹26› ‹26› (bK _)) (@aE _ _ _ (@bB _ _ _ _ (@lB _ _ _))) (@aR _)) (@aA _ _ _ _ _ (@aW _ _ (1) _ _ _ _ eG.nd (by rfl) (by first | exact Or.inl (by rfl) | exact Or.inr (by rfl)) (@cF _ _ _ _ _ _ _ _ _ _ _ _ _ _ _ ah3 T.ad4 ‹11› a8 ‹26› (@cT _ _ _ _ _ _ _ ‹26› (@aB _)) ⋯ ⋯ ⋯) ⋯ ⋯) (@aA _ _ _ _ _ (@fQ _ _ _ _ _ _ _ _ (m6 eM) (by rfl) (@bU _ K _ _ _ ‹17› ⋯) (@bI _ _ (2) _ eG.nd (by rfl) (by first | exact Or.inl (by rfl) | exact Or.inr (by rfl)) ⋯) (@aA _ _ _ _ _ (@aW _ _ (3) _ _ _ _ eG.nd (by rfl) (by first | exact Or.inl (by rfl) | exact Or.inr (by rfl)) (@cF _ _ _ _ _ _ _ _ _ _ _ _ _ _ _ ad9 T.ad4 ‹11› a8 ‹26› (@aD _ _ _ _ _ _ ‹20› (@aB _)) ⋯ ⋯ ⋯) ⋯ ⋯) (@aA _ _ _ _ _ (@aW _ _ (4) _ _ _ _ eG.nd (by rfl) (by first | exact Or.inl (by rfl) | exact Or.inr (by rfl)) (@aY _ _ _ _ _ _ _ _ _ (Dh (by rfl)) (by rfl) T.bz2 Ht (@aN _ _ _ _ _ _ _ (@cX _ _ _ _ _ _ _ (cJ K) ‹21› ‹18› (fun _ _ => rfl)) (@aD _ _ _ _ _ _ (@bX _ _ (.int 9) _ _ (by rfl) af4 ⟨_,rfl⟩ ⋯) (@aB _))) ⋯ ⋯ ⋯ ⋯) ⋯ ⋯) (@aE _ _ _ (aT (cF ab9 T.aa0 ‹11› bO (pv 0) (rT (jF (dN (cB (aP cW (aD (pv 2) (cG (bJ lC (cB (aD (pv 4) aB)) (cX (cJ K) (pv 3) jG (fun _ _=>rfl))) aB)))) aB)) aB)))))) ⋯) (@aA _ _ _ _ _ (aT (eJ ah4 T.aa0 ‹11› bO (pv 0))) (@aE _ _ _ (@bB _ _ _ _ ‹27›))))),?_⟩
  obtain⟨dx,h1⟩:=hq.self
  refine⟨_,rfl,L.qu,_,dx,_,_,rfl,h1,T.aa0,T.al0,rfl,_,rfl,L.qu,_,dx,_,_,rfl,h1,T.aa0,T.ai3,rfl,rfl,_,rfl,?_⟩
  by_cases hfl:q.first=q.last
  ·rw[decide_eq_true (show V.int q.first=V.int q.last by rw[hfl])]
   exact aX (q1 hfl)
  rw[mY hfl]
  refine bE (cH rfl ?_)
  obtain⟨hns,i0,istep,iend⟩:=q2 hfl
  obtain⟨db,h2⟩:=hq.book.self
  refine⟨_,rfl,L.qu,_,dx,_,_,rfl,h1,T.aa0,T.ae8,rfl,L.bk,db,_,rfl,h2,rfl,_,rfl,L.qu,_,dx,_,_,rfl,h1,T.aa0,T.al0,rfl,L.bk,L.de,L.dp,q.B,_,rfl,hq.book,he,fun ms perm pw p H4 S4 hp4 g4=>?_⟩
  rw[hns ms perm pw]at g4
  clear hns perm pw ms
  have np:¬ iC L p:=fun z=>by
   obtain⟨o,e⟩:=mW hq z
   rw[e]at hp4
   cases hp4
  refine⟨_,rfl,p,rfl,⟨_,SqL.of g4⟩,?_⟩
  refine hG (bT (K:=K) (H:=upd (fun _=>none) p (.lst (ns.map V.int))) (SqL.of aC)) (fun i σ H'=>∃ Li qi z2 z3 z4,Step L Li H H'/\QueueW A H' Li qi false/\I i qi/\¬ iC Li p/\H' p=some (.lst (ns.map V.int))/\σ = [some (.ref L.qu),some (.ref p),z2,z3,z4]) ⟨L,q,_,_,_,aG.step S4,hq.same S4,i0,np,g4,rfl⟩ (fun i σ H' hh b o e=>?_) ?_ ?_
  ·obtain⟨_,_,_,_,_,_,_,_,_,g,_⟩:=hh
   by_cases y:b=p
   ·subst y
    rw[aC]at e
    injection e with e
    rw[<- e]
    exact g
   ·rw[aF y]at e
    cases e
  ·rintro D' i x σ H5 H6 hD' - hi ⟨Li,qi,z2,z3,z4,st,hqi,ii,npi,gi,rfl⟩ s6 hx
   rw[length_map]at hi
   have hx:(ns.map V.int)[i]? = some x:=hx
   rw[getElem?_map]at hx
   obtain⟨n,en⟩:∃ n,ns[i]? = some n:=⟨_,getElem?_eq_getElem hi⟩
   rw[en]at hx
   cases hx
   obtain⟨e,B',el,rok,wok,hfo,inx⟩:=istep i n qi en ii
   have hq6:=hqi.same s6
   have st6:=st.trans (aG.step s6)
   obtain⟨dx6,h6⟩:=hq6.self
   rw[st.qu]at h6
   obtain⟨db6,hb6⟩:=hq6.book.self
   refine⟨_,rfl,L.qu,_,dx6,_,_,rfl,h6,T.aa0,T.ae8,rfl,Li.bk,db6,_,rfl,hb6,rfl,_,rfl,Li.bk,Li.de,Li.dp,qi.B,n,e,rfl,hq6.book,el,fun pt H7 S7 d7=>?_⟩
   obtain⟨t,b,et,gt,gb⟩:=kB d7
   cases et
   refine⟨_,rfl,pt,_,_,.int e.2.1,rfl,rfl,SqT.of gt,bZ (by decide) rfl,_,_,rfl,?_⟩
   have hq7:=hq6.same S7
   obtain⟨dx7,h7⟩:=hq7.self
   rw[st.qu]at h7
   have rf:=wC (k:="carried") (n:=n) (body:=(dZ n e).2.2) rok
   refine⟨_,rfl,L.qu,dx7,_,rfl,h7,rfl,_,rfl,_,rfl,bY,fun p0 hp0=>?_⟩
   obtain⟨tm,etm⟩:∃ tm:Int,tm=if (9:Int)<e.2.1 then 9 else e.2.1:=⟨_,rfl⟩
   rw[<- etm]
   have V0:=aI (o:=.tup [.int tm]) hp0
   have v0:upd H7 p0 (.tup [.int tm]) p0=some (.tup [.int tm]):=aC
   generalize upd H7 p0 (.tup [.int tm])=H8 at V0 v0 ⊢
   refine⟨_,rfl,pt,_,_,.ref b,rfl,rfl,SqT.of (V0 _ _ gt),bZ (by decide) rfl,p0,b,_,_,rfl,rfl,v0,V0 _ _ gb,?_,fun p9 H9 S9 g9=>⟨bY,fun p1 hp1=>⟨bY,fun p2 hp2=>?_⟩⟩⟩
   ·rw[length_map]
    have:=rf.2.2.2.2.2
    have:1+e.1.length<=61:=by
     have h:(dZ n e).2.2.length=e.1.length+1:=rfl
     omega
    exact le_trans this (by decide)
   have V1:=aI (o:=.tup [.str "carried",.int n,.ref p9]) hp1
   have v1:upd H9 p1 (.tup [.str "carried",.int n,.ref p9]) p1=some (.tup [.str "carried",.int n,.ref p9]):=aC
   generalize upd H9 p1 (.tup [.str "carried",.int n,.ref p9])=H10 at V1 v1 hp2 ⊢
   have V2:=aI (o:=.lst [.ref p1]) hp2
   have v2:upd H10 p2 (.lst [.ref p1]) p2=some (.lst [.ref p1]):=aC
   generalize upd H10 p2 (.lst [.ref p1])=H11 at V2 v2 ⊢
   have S611:=S7.trans (V0.trans (S9.trans (V1.trans V2)))
   refine⟨Li,qi,p2,[dZ n e],B',by rw[st.qu],hq6.same S611,wok,fun z=>?_,?_,fun r hr'=>?_,hfo,fun L' H12 st12 hq12=>?_⟩
   ·obtain⟨o,e⟩:=mW (hq6.same (S7.trans (V0.trans (S9.trans V1)))) z
    rw[e]at hp2
    cases hp2
   ·simp only[Den,map_cons,map_nil,aV]
    refine⟨p2,_,rfl,v2,_,_,rfl,?_,rfl⟩
    unfold cA f9 dZ
    rw[<- etm]
    simp only[Den,aV]
    refine⟨p1,_,rfl,V2 _ _ v1,_,_,rfl,rfl,_,_,rfl,rfl,_,_,rfl,⟨p9,_,rfl,V2 _ _ (V1 _ _ g9),?_⟩,rfl⟩
    exact b8.mpr rfl
   ·rw[mem_singleton.mp hr']
    exact rok
   have npn:¬ iC L' p:=st12.not (S611 _ _ (s6 _ _ gi)) npi
   exact hD' _ _ ⟨L',_,_,_,_,st6.trans ((aG.step S611).trans st12),hq12,inx,npn,st12.frm _ _ (S611 _ _ (s6 _ _ gi)) npi,rfl⟩
  rintro σ H5 ⟨Li,qi,z2,z3,z4,st,hqi,ii,npi,gi,rfl⟩
  rw[length_map]at ii
  obtain⟨l1,l2,⟨bs,l3⟩,qq⟩:=iend qi ii
  obtain⟨dx5,h5⟩:=hqi.self
  rw[st.qu]at h5
  refine⟨_,rfl,L.qu,dx5,_,rfl,h5,rfl,Li,qi,false,bs,by rw[st.qu],hqi,l1,l2,l3,fun L' H6 st6 hq6=>?_⟩
  have g6:=st6.frm _ _ gi npi
  refine⟨_,rfl,p,_,rfl,.inl (SqL.of g6),?_⟩
  rw[length_map]
  exact qq L' H6 (st.trans st6) hq6
end
def spF:Sp:=fun _ _ _ _=>False
noncomputable def uQ:List Int:=cV "from" 0 []
noncomputable abbrev sZ:Stmt:=bL (top 52) 0
def uV (D:Dk):Prop:=D.fs=[]/\D.left=none
def oA (A:Ad):Sp:=fun vs H Q _=>∃ (dk df:Addr) (kvs:List (Key × V)) (D:Dk),vs=[.ref dk]/\DiskAt A.disk H dk df kvs D/\uV D/\∀ p H',aG H H'->H p=none->H' p=some (.lst [])->Q (.ref p) H'
def lQ:Sp:=fun vs H Q _=>∃ (p:Addr),vs=[.ref p]/\H p=some (.lst [])/\∀ p H',aG H H'->H' p=some (.lst [])->Q (.ref p) H'
def sM (A:Ad):Sp:=fun vs H Q _=>∃ (dk df:Addr) (kvs:List (Key × V)) (D:Dk),vs=[.ref dk]/\DiskAt A.disk H dk df kvs D/\uV D/\∀ bk de dp H',aG H H'->H bk=none->H de=none->H dp=none->BookAt A.book H' bk de dp ⟨[],0,[]⟩->Q (.ref bk) H'
def sK (A:Ad):Sp:=fun vs H Q _=>∃ (dk df:Addr) (kvs:List (Key × V)) (D:Dk),vs=[.ref dk]/\DiskAt A.disk H dk df kvs D/\uV D/\∀ kvs' d p H',rN dk df kvs H H'->Dq dk df kvs kvs' H->DiskAt A.disk H' dk df kvs' ⟨[(aQ 0,uQ)],d,none⟩->H' p=some (.lst [.int 0])->¬ own dk df kvs' p->Q (.ref p) H'
noncomputable def AG (m h t d:Int):Qs:=⟨⟨[(aQ 0,uQ)],d,none⟩,⟨[],0,[]⟩,m,h,t,0,0,0,[]⟩
def sJ (A:Ad):Sp:=fun vs H Q _=>∃ (qu dx dk df:Addr) (kvs:List (Key × V)) (D:Dk) (m h t:Int),vs=[.ref qu,.ref dk,.int m,.int h,.int t]/\H qu=some (.ins A.queue dx [])/\DiskAt A.disk H dk df kvs D/\¬ own dk df kvs qu/\vW (.int m) (.int h) (.int t)=true/\uV D/\
 ∀ L' d H',L'.qu=qu->L'.dk=dk->(∀ b o,H b=some o->b≠qu->¬ own dk df kvs b->H' b=some o)->(∀ b,iC L' b->b=qu\/own dk df kvs b\/H b=none)->QueueW A H' L' (AG m h t d) false->Q .non H'
structure Fs (C qu dx:Addr) (H0 H1:Hp) (fs:List (Str × V)):Prop where
 at_:H1 qu=some (.ins C dx fs)
 but:But qu H0 H1
theorem Fs.set {C qu dx:Addr} {H0 H1:Hp} {fs:List (Str × V)} (j:Fs C qu dx H0 H1 fs) (f:Str) (v:V):∃ G,G=upd H1 qu (.ins C dx (gX f v fs))/\Fs C qu dx H0 G (gX f v fs):=
 ⟨_,rfl,aC,fun c o e nc=>by rw[aF nc]; exact j.but c o e nc⟩
theorem Fs.new {C qu dx:Addr} {H0 H1:Hp} {fs:List (Str × V)} (j:Fs C qu dx H0 H1 fs) {p:Addr} {o:HO} (hp:H1 p=none):∃ G,G=upd H1 p o/\Fs C qu dx H0 G fs/\G p=some o/\aG H1 G/\p≠qu:=
 ⟨_,rfl,⟨aI hp _ _ j.at_,fun c u e nc=>aI hp _ _ (j.but c u e nc)⟩,aC,aI hp,fun z=>by rw[z,j.at_]at hp; cases hp⟩
section
variable {P:Program} {w:World} {K:PySem.W.Frag} {mg:Str->Option Value} {base:Heap} {A:Ad}
theorem okF {k:Nat} {f:Addr} {fd:FuncData} {ps:List Str}:‹6› k f fd ps spF:=⟨fun _ _ _ _ h=>h.elim,fun _ _ _ _ _ _ _ _ _ _ _ _ _ h=>h.elim⟩
theorem tX {f:Addr} {fd:FuncData} (F:Fun K "segment_of" "segment_of" oM f fd):‹6› 2 f fd ["name"] spF:=by
 exact okF
theorem AB {f:Addr} {fd:FuncData} (F:Fun K "rows_of" "rows_of" v8 f fd):‹6› 6 f fd ["disk","segment","last"] spF:=by
 exact okF
theorem GI {f:Addr} {fd:FuncData} (F:Fun K "cut" "Disk.cut" Gq f fd):‹6› 4 f fd ["self","name","size"] spF:=by
 exact okF
theorem rJ {f:Addr} {fd:FuncData} (F:Fun K "segments_on" "segments_on" jD f fd) (T:TxtQ K mg A) (ai5:‹7› "segment_of" 2 ["name"] spF) (af3:‹8› A.disk "names" 1 ["self"] (fA A.disk)):‹6› 3 f fd ["disk"] (oA A):=by
 refine F.okX lT (fun vs H Q E h=>?_) (fun cdv A' outer s H vs Q E hr h=>?_)
 ·obtain⟨dk,df,kvs,D,rfl,_⟩:=h
  rfl
 ·obtain⟨dk,df,kvs,D,rfl,hD,he,q⟩:=h
  refine⟨_,@aA _ _ _ _ _ (@aW _ _ (1) _ _ _ _ lT.nd (by rfl) (by first | exact Or.inl (by rfl) | exact Or.inr (by rfl)) (@aY _ _ _ _ _ _ _ _ _ lK (by rfl) T.ac9 gJ (@eK _ _ _ _ _ _ _ _ (@dI _ _ _ _ _ _ _ _ _ _ _ ["name"] [] (by rfl) (@bU _ K _ _ _ (@eJ _ _ _ _ _ _ _ _ _ _ _ _ af3 T.ab6 ‹11› a8 ‹16› ⋯) ⋯) (fun C s2 H2 ex=>(@bI _ _ (0) _ (show List.Nodup (["name"]:List Str) by decide +kernel) (by rfl) (Or.inl (by rfl)) ⋯)) (fun C s2 H2 ex => (@Fz _)) (fun C s2 H2 ex=>(@bF _ _ _ _ _ _ _ _ _ _ _ ai5 ‹11› a8 (@aD _ _ _ _ _ _ ‹16› (@aB _)) ⋯ ⋯ ⋯ ⋯)) ⋯ ⋯ ⋯ ⋯) (@aB _)) ⋯ ⋯ ⋯ ⋯) ⋯ ⋯) (@aA _ _ _ _ _ (@bG _ _ _ _ _ _ _ _ (@PW.pt _ _ _ (@tO _ _ _ _ _ _ _ (@jY _ K _ _ ‹17› ⋯ ⋯) (@oQ _ _ _ _ (@aZ _ _ _ _ _ _ _ _ CM (@bJ _ _ _ _ _ _ _ _ eZ (@bJ _ _ _ _ _ _ _ _ qM (@cX _ _ _ _ _ _ _ (fT K) ‹17› (@Ed _ _ _ _ _ _ At ‹18›) (fun _ _ => rfl)) (@cX _ _ _ _ _ _ _ (fT K) ‹17› ‹18› (fun _ _=>rfl))) ‹18›) ‹27› (bK _))))) ‹30› (@aR _)) (@aE _ _ _ (@bB _ _ _ _ ‹17›))),?_⟩
  obtain⟨dx,h1⟩:=hD.self
  refine⟨_,rfl,dk,dx,_,rfl,h1,rfl,dk,df,kvs,D,rfl,hD,by rw[he.1]; decide,fun p1 ts perm1 so1 H1 S1 g1 hp1=>?_⟩
  rw[he.1]at perm1
  have et:ts=[]:=perm1.eq_nil
  subst et
  refine⟨p1,rfl,⟨_,SqL.of g1⟩,?_⟩
  refine fF (bT (K:=K) (SqL.of g1)) (zero_le _) (fun i y _=>False) (fun _ _ _ _ _ h=>h) (fun σ=>True) trivial (fun i x σc H3 hi=>absurd hi (Nat.not_lt_zero _)) ?_
  intro D2 ys H2 hD2 S2 gD hlen hR
  have ey:ys=[]:=length_eq_zero_iff.mp hlen
  subst ey
  refine⟨D2,[],rfl,gD,zero_le _,fun p ms permm pwm hp=>?_⟩
  have em:ms=[]:=permm.eq_nil
  subst em
  have S3:=aI (o:=.lst ([].map V.int)) hp
  refine⟨_,rfl,p,_,rfl,SqL.of aC,?_⟩
  exact bE ⟨_,rfl,q p _ (S1.trans (S2.trans S3)) ((S1.trans S2).free hp) aC⟩
theorem AA {f:Addr} {fd:FuncData} (F:Fun K "without_last_parts" "without_last_parts" pR f fd) (T:TxtQ K mg A):‹6› 1 f fd ["rows"] lQ:=by
 refine F.okX dU (fun vs H Q E h=>?_) (fun cdv A' outer s H vs Q E hr h=>?_)
 ·obtain⟨a,rfl,_⟩:=h
  rfl
 ·obtain⟨a,rfl,ha,q⟩:=h
  refine⟨_,@aA _ _ _ _ _ (@aW _ _ (1) _ _ _ _ dU.nd (by rfl) (by first | exact Or.inl (by rfl) | exact Or.inr (by rfl)) (@aY _ _ _ _ _ _ _ _ _ (dQ K) (by rfl) T.ae2 iS (@aD _ _ _ _ _ _ ‹16› (@aB _)) ⋯ ⋯ ⋯ ⋯) ⋯ ⋯) (@aA _ _ _ _ _ (@zZ _ _ _ _ _ _ (m6 eM) (@PW.pt _ _ _ (@tO _ _ _ _ _ _ _ (@aZ _ _ _ _ _ _ _ _ CO ‹17› ‹18› (bK _)) (@oQ _ _ _ _ (@aZ _ _ _ _ _ _ _ _ iQ (@cX _ _ _ _ _ _ _ (cJ K) (@cX _ _ _ _ _ _ _ (fT K) ‹16› (@bJ _ _ _ _ _ _ _ _ qM ‹17› ‹18›) (fun _ _=>rfl)) ‹18› (fun _ _=>rfl)) (@cW _ _ _ _) (bK _))))) (@aE _ _ _ (@HG _ _ (1) _ _ _ _ _ _ dU.nd (by rfl) (by first | exact Or.inl (by rfl) | exact Or.inr (by rfl)) ‹18› Hg ⋯))) (@aE _ _ _ (@bB _ _ _ _ (@eI _ _ _ _ _ _ _ _ _ _ (sO K) ‹16› (@gO _) (@fH _ _ _ ‹17›))))),?_⟩
  refine⟨_,rfl,a,_,rfl,.inl (SqL.of ha),?_⟩
  refine⟨fun m σ H3=>H3=H/\σ = [some (.ref a),some (.int 0)],⟨0,rfl,rfl⟩,?_⟩
  rintro m σ H3 ⟨rfl,rfl⟩
  refine⟨_,rfl,_,_,rfl,rfl,_,rfl,?_⟩
  refine bE (bE ⟨_,rfl,_,rfl,_,rfl,a,_,rfl,SqL.of ha,fun p hp'=>?_⟩)
  exact q p _ (aI hp') aC
theorem Es {f:Addr} {fd:FuncData} (F:Fun K "book_of" "book_of" qC f fd) (T:TxtQ K mg A) (ac4:‹7› "segments_on" 3 ["disk"] (oA A)) (an4:‹7› "rows_of" 6 ["disk","segment","last"] spF) (bc7:Maker P w K mg base "Book" A.book 1 ["self"] (xR A.book)) (ag5:‹8› A.book "enter" 3 ["self","row","segment"] (oE A.book A.broken)):‹6› 7 f fd ["disk"] (sM A):=by
 refine F.okX iN (fun vs H Q E h=>?_) (fun cdv A' outer s H vs Q E hr h=>?_)
 ·obtain⟨dk,df,kvs,D,rfl,_⟩:=h
  rfl
 ·obtain⟨dk,df,kvs,D,rfl,hD,ok,q⟩:=h
  refine⟨_,@aA _ _ _ _ _ (@aW _ _ (1) _ _ _ _ iN.nd (by rfl) (by first | exact Or.inl (by rfl) | exact Or.inr (by rfl)) (@bF _ _ _ _ _ _ _ _ _ _ _ ac4 ‹11› bO (@aD _ _ _ _ _ _ ‹16› (@aB _)) ⋯ ⋯ ⋯ ⋯) ⋯ ⋯) (@aA _ _ _ _ _ (@aW _ _ (2) _ _ _ _ iN.nd (by rfl) (by first | exact Or.inl (by rfl) | exact Or.inr (by rfl)) (@HL _ _ _ _ _ _ _ _ _ bc7 ‹11› bO ⋯ ⋯) ⋯ ⋯) (@aA _ _ _ _ _ (@fQ _ _ _ _ _ _ _ _ (m6 eM) (by rfl) (@bU _ K _ _ _ ‹17› ⋯) (@bI _ _ (3) _ iN.nd (by rfl) (by first | exact Or.inl (by rfl) | exact Or.inr (by rfl)) ⋯) (@aE _ _ _ (@fQ _ _ _ _ _ _ _ _ (m6 eM) (by rfl) (@bU _ K _ _ _ (@bF _ _ _ _ _ _ _ _ _ _ _ an4 ‹11› bO (@aD _ _ _ _ _ _ ‹16› (@aD _ _ _ _ _ _ ‹21› (@aN _ _ _ _ _ _ _ (@cX _ _ _ _ _ _ _ (fT K) ‹17› (@Ed _ _ _ _ _ _ At ‹18›) (fun _ _ => rfl)) (@aB _)))) ⋯ ⋯ ⋯ ⋯) ⋯) (@bI _ _ (4) _ iN.nd (by rfl) (by first | exact Or.inl (by rfl) | exact Or.inr (by rfl)) ⋯) (@aE _ _ _ (aT (cF ag5 T.ad4 ‹11› bO (pv 2) (aD (pv 4) (aD (pv 3) aB))))) ⋯)) ⋯) (@aE _ _ _ (@bB _ _ _ _ ‹20›)))),?_⟩
  refine⟨_,rfl,dk,df,kvs,D,rfl,hD,ok,fun p H1 S1 hp g1=>?_⟩
  refine fun bk dx hbk hdx ndx=>⟨bk,dx,rfl,aC,fun de dp H2 f2 hde hdp hB2=>⟨rfl,?_⟩⟩
  have S12:aG H1 H2:=fun b o e=>by
   have nb:b≠bk:=fun z=>by rw[z,hbk]at e; cases e
   have nd:b≠dx:=fun z=>by rw[z,hdx]at e; cases e
   exact f2 b o (by rw[aF nb,aF nd]; exact e) nb
  have fr:∀ c,upd (upd H1 dx (.own bk)) bk (.ins A.book dx []) c=none->H1 c=none:=fun c e=>by
   cases e2:H1 c with
   | none=>rfl
   | some o=>
    have nb:c≠bk:=fun z=>by rw[z,hbk]at e2; cases e2
    have nd:c≠dx:=fun z=>by rw[z,hdx]at e2; cases e2
    rw[aF nb,aF nd,e2]at e
    cases e
  refine⟨_,rfl,p,rfl,⟨_,SqL.of (S12 _ _ g1)⟩,?_⟩
  refine kD (bT (K:=K) (SqL.of g1)) (fun i σ H'=>H'=H2/\σ = [some (.ref dk),some (.ref p),some (.ref bk),none,none]) ⟨rfl,rfl⟩ (fun i σ H' h=>by rw[h.1]; exact S12) (fun i x σ H1 H2 hi=>absurd hi (Nat.not_lt_zero _)) ?_
  rintro σ H' ⟨rfl,rfl⟩
  exact⟨_,rfl,q bk de dp _ (S1.trans S12) (S1.free hbk) (S1.free (fr _ hde)) (S1.free (fr _ hdp)) hB2⟩
theorem Eo {f:Addr} {fd:FuncData} (F:Fun K "make_good" "make_good" lX f fd) (T:TxtQ K mg A) (ab1:(Callee P w K mg base "segment_name" 1 ["segment"] hU)) (ac4:‹7› "segments_on" 3 ["disk"] (oA A)) (ae0:‹7› "rows_in" 5 ["some"] (d8 A.badRow A.broken)) (ad0:‹7› "without_last_parts" 1 ["rows"] lQ) (ab4:‹7› "row_bytes" 4 ["row"] (eR A.badRow))
  (ag6:‹8› A.disk "read" 4 ["self","name"] (iW A.disk A.badName A.missing)) (ah8:‹8› A.disk "size" 4 ["self","name"] (n8 A.disk A.badName A.missing)) (ah9:‹8› A.disk "make" 3 ["self","name"] (oB A.disk A.badName A.there A.stopped)) (ai0:‹8› A.disk "drop" 4 ["self","name"] (oF A.disk A.badName A.missing A.stopped)) (bc8:‹8› A.disk "cut" 4 ["self","name","size"] spF) (ag1:‹8› A.disk "add" 4 ["self","name","some"] (pK A.disk A.badName A.missing A.badRow A.stopped)):‹6› 6 f fd ["disk"] (sK A):=by
 refine F.okX eS (fun vs H Q E h=>?_) (fun cdv A' outer s H vs Q E hr h=>?_)
 ·obtain⟨dk,df,kvs,D,rfl,_⟩:=h
  rfl
 ·obtain⟨dk,df,kvs,⟨fs,dd,left⟩,rfl,hD,⟨rfl,rfl⟩,q⟩:=h
  refine⟨_,@aA _ _ _ _ _ (@aW _ _ (1) _ _ _ _ eS.nd (by rfl) (by first | exact Or.inl (by rfl) | exact Or.inr (by rfl)) (@bF _ _ _ _ _ _ _ _ _ _ _ ac4 ‹11› bO (@aD _ _ _ _ _ _ ‹16› (@aB _)) ⋯ ⋯ ⋯ ⋯) ⋯ ⋯) (@aA _ _ _ _ _ (@bG _ _ _ _ _ _ _ _ (@cP _ _ _ _ (@jY _ K _ _ ‹17› ⋯ ⋯)) (@aA _ _ _ _ _ (aT (cF ah9 T.ab6 ‹11› bO (pv 0) (eT (bF ab1 ‹11› a8 (aP jG aB)) aB))) (@aE _ _ _ (@aW _ _ (1) _ _ _ _ eS.nd (by rfl) (by first | exact Or.inl (by rfl) | exact Or.inr (by rfl)) (@jF _ _ _ _ (@aP _ _ _ _ _ _ _ ‹18› (@aB _))) ⋯ ⋯))) (@aR _)) (@aA _ _ _ _ _ (@aW _ _ (2) _ _ _ _ eS.nd (by rfl) (by first | exact Or.inl (by rfl) | exact Or.inr (by rfl)) (@bF _ _ _ _ _ _ _ _ _ _ _ ab1 ‹11› a8 (@aN _ _ _ _ _ _ _ (@cX _ _ _ _ _ _ _ (fT K) ‹17› (@Ed _ _ _ _ _ _ At ‹18›) (fun _ _ => rfl)) (@aB _)) ⋯ ⋯ ⋯ ⋯) ⋯ ⋯) (@aA _ _ _ _ _ (@aW _ _ (3) _ _ _ _ eS.nd (by rfl) (by first | exact Or.inl (by rfl) | exact Or.inr (by rfl)) (@bF _ _ _ _ _ _ _ _ _ _ _ ad0 ‹11› a8 (@aN _ _ _ _ _ _ _ (@cX _ _ _ _ _ _ _ (cJ K) (@bF _ _ _ _ _ _ _ _ _ _ _ ae0 ‹11› bO (@eT _ _ _ _ _ _ _ _ (@cF _ _ _ _ _ _ _ _ _ _ _ _ _ _ _ ag6 T.ab6 ‹11› bO ‹16› (@aD _ _ _ _ _ _ ‹20› (@aB _)) ⋯ ⋯ ⋯) (@aB _)) ⋯ ⋯ ⋯ ⋯) ‹18› (fun _ _=>rfl)) (@aB _)) ⋯ ⋯ ⋯ ⋯) ⋯ ⋯) (@aA _ _ _ _ _ (@bG _ _ _ _ _ _ _ _ (@PW.pt _ _ _ (@tO _ _ _ _ _ _ _ (@cP _ _ _ _ (@jY _ K _ _ ‹21› ⋯ ⋯)) (@oQ _ _ _ _ (@aZ _ _ _ _ _ _ _ _ CO ‹27› ‹18› (bK _))))) (@aA _ _ _ _ _ (aT (cF ai0 T.ab6 ‹11› bO (pv 0) (aD (pv 2) aB))) (@aE _ _ _ (@bB _ _ _ _ (@eI _ _ _ _ _ _ _ _ _ _ (sO K) ‹17› (@gO _) (@fH _ _ _ (@Ed _ _ _ _ _ _ At ‹18›)))))) (@aR _)) (@aA _ _ _ _ _ (@aW _ _ (4) _ _ _ _ eS.nd (by rfl) (by first | exact Or.inl (by rfl) | exact Or.inr (by rfl)) (@aY _ _ _ _ _ _ _ _ _ (qT K) (by rfl) T.ar4 Bx (@eK _ _ _ _ _ _ _ _ (@dI _ _ _ _ _ _ _ _ _ _ _ ["row"] [] (by rfl) (@bU _ K _ _ _ ‹21› ⋯) (fun C s2 H2 ex=>(@bI _ _ (0) _ (show List.Nodup (["row"]:List Str) by decide +kernel) (by rfl) (Or.inl (by rfl)) ⋯)) (fun C s2 H2 ex => (@Fz _)) (fun C s2 H2 ex=>(@aY _ _ _ _ _ _ _ _ _ (dQ K) (by rfl) T.ae2 iS (@eT _ _ _ _ _ _ _ _ (@bF _ _ _ _ _ _ _ _ _ _ _ ab4 ‹11› a8 (@aD _ _ _ _ _ _ ‹16› (@aB _)) ⋯ ⋯ ⋯ ⋯) (@aB _)) ⋯ ⋯ ⋯ ⋯)) ⋯ ⋯ ⋯ ⋯) (@aB _)) ⋯ ⋯ ⋯ ⋯) ⋯ ⋯) (@aA _ _ _ _ _ (@bG _ _ _ _ _ _ _ _ (@aZ _ _ _ _ _ _ _ _ CN (@pv _ 4 _ _ ⋯ ⋯ ⋯ ⋯) (@cF _ _ _ _ _ _ _ _ _ _ _ _ _ _ _ ah8 T.ab6 ‹11› bO ‹16› (@aD _ _ _ _ _ _ ‹20› (@aB _)) ⋯ ⋯ ⋯) (bK _)) (@aE _ _ _ (aT (cF bc8 T.ab6 ‹11› bO (pv 0) (aD (pv 2) (aD (pv 4) aB))))) (@aR _)) (@aA _ _ _ _ _ (@bG _ _ _ _ _ _ _ _ (@cP _ _ _ _ (@jY _ K _ _ ‹21› ⋯ ⋯)) (@aE _ _ _ (aT (cF ag1 T.ab6 ‹11› bO (pv 0) (aD (pv 2) (eT (bF ab4 ‹11› bO (dN (cB (aP cW (aP jG (dN (cB aB) aB)))) aB)) aB))))) (@aR _)) (@aE _ _ _ (@bB _ _ _ _ ‹17›))))))))),?_⟩
  refine jP fun R hR=>?_
  refine⟨_,rfl,dk,df,kvs,_,rfl,hD,⟨rfl,rfl⟩,fun p H1 S1 hp g1=>?_⟩
  have hD1:=hD.same S1
  obtain⟨dx1,h11⟩:=hD1.self
  have num0:cZ 0:=⟨by decide,by decide⟩
  refine⟨_,rfl,p,_,rfl,SqL.of g1,aX ?_⟩
  refine⟨_,rfl,dk,dx1,_,rfl,h11,rfl,0,rfl,num0,gI (zL hD1 rfl num0 (le_of_ble_eq_true rfl) rfl fun kvs2 H2 f2 w2 hD2=>?_)⟩
  refine⟨bY,fun p2 hp2=>?_⟩
  have S2:=aI (o:=.lst [.int 0]) hp2
  have g2:upd H2 p2 (.lst [.int 0]) p2=some (.lst [.int 0]):=aC
  generalize upd H2 p2 (.lst [.int 0])=H3 at S2 g2 ⊢
  have hD3:=hD2.same S2
  have np2:¬ own dk df kvs2 p2:=fun z=>by
   obtain⟨o,e⟩:=qL hD2 z
   rw[e]at hp2
   cases hp2
  have l0:aO (mkN ⟨[],dd,none⟩ (aQ 0)).fs (aQ 0)=some []:=by
   show aO [(aQ 0,[])] (aQ 0)=some []
   simp [aO]
  obtain⟨dx3,h13⟩:=hD3.self
  subst hR
  dsimp only
  refine jP fun R hR=>?_
  refine⟨_,rfl,1,rfl,p2,_,_,.int 0,rfl,rfl,SqL.of g2,rfl,0,rfl,num0,?_⟩
  refine⟨_,rfl,dk,dx3,_,rfl,h13,rfl,_,rfl,gI (Dv hD3 num0 l0 fun p4 H4 S4 g4=>?_)⟩
  refine gI (Du (bs:=[]) (rs:=[]) (k:=0) g4 (fun b hb=>by cases hb) (by decide) rfl fun p5 pL H5 S5 g5 d5=>?_)
  simp only[Den]at d5
  obtain⟨_,xs,e,gx,dx⟩:=d5
  cases e
  have ex:xs=[]:=by simpa [aV] using dx
  subst ex
  refine⟨p5,_,_,.ref pL,rfl,rfl,SqT.of g5,bZ (by decide) rfl,pL,rfl,gx,fun p6 H6 S6 g6=>?_⟩
  have hD6:=hD3.same (S4.trans (S5.trans S6))
  subst hR
  dsimp only
  refine jP fun R hR=>?_
  refine⟨_,rfl,p6,_,rfl,SqL.of g6,aX ⟨_,rfl,p2,_,rfl,.inl (SqL.of (S6 _ _ (S5 _ _ (S4 _ _ g2)))),_,_,rfl,rfl,_,rfl,bE (cH rfl ?_)⟩⟩
  refine⟨_,rfl,p6,rfl,⟨_,SqL.of g6⟩,?_⟩
  refine fF (bT (K:=K) (SqL.of g6)) (zero_le _) (fun i y _=>False) (fun _ _ _ _ _ h=>h) (fun σ=>True) trivial (fun i x σc H3 hi=>absurd hi (Nat.not_lt_zero _)) ?_
  intro D7 ys H7 _ S7 g7 hlen _
  have ey:ys=[]:=length_eq_zero_iff.mp hlen
  subst ey
  have hD7:=hD6.same S7
  obtain⟨dx7,h17⟩:=hD7.self
  refine⟨D7,[],rfl,.inl (SqL.of g7),?_⟩
  subst hR
  refine⟨_,rfl,_,rfl,dk,dx7,_,rfl,h17,rfl,_,rfl,gI (zK hD7 num0 l0 fun H8 S8=>?_)⟩
  refine⟨_,_,rfl,rfl,_,rfl,bE (cH rfl ?_)⟩
  have hD8:=hD7.same S8
  obtain⟨dx8,h18⟩:=hD8.self
  refine⟨_,rfl,p6,_,rfl,SqL.of (S8 _ _ (S7 _ _ g6)),aX ?_⟩
  refine⟨_,rfl,dk,dx8,_,rfl,h18,rfl,_,rfl,bY,fun p9 hp9=>⟨bY,fun p10 hp10=>?_⟩⟩
  have V9:=aI (o:=.tup []) hp9
  have v9:upd H8 p9 (.tup []) p9=some (.tup []):=aC
  generalize upd H8 p9 (.tup [])=H9 at V9 v9 hp10 ⊢
  have V10:=aI (o:=.tup [.str "from",.int 0,.ref p9]) hp10
  have v10:upd H9 p10 (.tup [.str "from",.int 0,.ref p9]) p10=some (.tup [.str "from",.int 0,.ref p9]):=aC
  generalize upd H9 p10 (.tup [.str "from",.int 0,.ref p9])=H10 at V10 v10 ⊢
  have fo:aS (cA ("from",0,[]))=true:=rY (by decide) (by decide)
  refine gI (As (r:=("from",0,[])) (by
   unfold cA f9
   simp only[Den,aV,map_nil]
   exact⟨p10,_,rfl,v10,_,_,rfl,rfl,_,_,rfl,rfl,_,_,rfl,⟨p9,[],rfl,V10 _ _ v9,rfl⟩,rfl⟩) fo fun p11 H11 S11 g11=>?_)
  have S611:=S8.trans (V9.trans (V10.trans S11))
  have hD11:=hD7.same S611
  have b4:=kZ (r:=("from",0,[])) fo
  refine gI (xM hD11 rfl num0 l0 (fun n bs e=>?_) g11 b4 (by rw[cS]; decide) fun H12 f12 hD12=>?_)
  ·have e:aO [(aQ 0,[])] n=some bs:=e
   unfold aO at e
   rw[find?_cons]at e
   split at e
   ·cases e
    decide
   ·cases e
  have S311:=S4.trans (S5.trans (S6.trans (S7.trans S611)))
  refine⟨_,rfl,q kvs2 (dd+1+(((cV "from" 0 []).length:Nat):Int)) p2 H12 (fun b o e nb=>?_) (fun b hb=>?_) ?_ ?_ np2⟩
  ·have n2:¬ own dk df kvs2 b:=fun z=>(w2 b z).elim nb (fun y=>by rw[S1 _ _ e]at y; cases y)
   exact f12 b o (S311 _ _ (S2 _ _ (f2 b o (S1 _ _ e) nb))) n2
  ·rcases w2 b hb with y | y
   ·exact .inl y
   ·exact .inr (S1.free y)
  ·have e1:(sS (mkN ⟨[],dd,none⟩ (aQ 0)) (aQ 0) ([]++cV "from" 0 []) (cV "from" 0 []).length)=⟨[(aQ 0,uQ)],dd+1+(((cV "from" 0 []).length:Nat):Int),none⟩:=by
    unfold sS mkN dY
    show (⟨[((if aQ 0=aQ 0 then (aQ 0,[]++cV "from" 0 []) else (aQ 0,[])):Str × List Int)],_,none⟩:Dk)=_
    rw[if_pos rfl]
    rfl
   rw[e1]at hD12
   exact hD12
  ·exact f12 _ _ (S311 _ _ g2) np2
theorem iY:FnScope ["self","disk","most","hold","tries","segments"] ["self","disk","most","hold","tries"] (aH sZ):=‹0›
theorem BR {f:Addr} {fd:FuncData} (F:Fun K "__init__" "Queue.__init__" sZ f fd) (T:TxtQ K mg A) (af6:‹7› "check_settings" 2 ["most","hold","tries"] (fO A)) (an5:‹7› "book_of" 7 ["disk"] (sM A)) (ad5:‹7› "make_good" 6 ["disk"] (sK A)):‹6› 8 f fd ["self","disk","most","hold","tries"] (sJ A):=by
 refine F.okX iY (fun vs H Q E h=>?_) (fun cdv A' outer s H vs Q E hr h=>?_)
 ·obtain⟨qu,dx,dk,df,kvs,D,m,h,t,rfl,_⟩:=h
  rfl
 ·obtain⟨qu,dx,dk,df,kvs,D,m,h,t,rfl,h0,hD,nqu,hset,he,qq⟩:=h
  refine⟨_,@aA _ _ _ _ _ (aT (bF af6 ‹11› bO (aD (pv 2) (aD (pv 3) (aD (pv 4) aB))))) (@aA _ _ _ _ _ (@cQ _ _ _ _ _ _ _ _ ‹16› ‹17› (by rfl)) (@aA _ _ _ _ _ (@cQ _ _ _ _ _ _ _ _ ‹16› ‹20› (by rfl)) (@aA _ _ _ _ _ (@cQ _ _ _ _ _ _ _ _ ‹16› ‹21› (by rfl)) (@aA _ _ _ _ _ (@cQ _ _ _ _ _ _ _ _ ‹16› (@pv _ 4 _ _ ⋯ ⋯ ⋯ ⋯) (by rfl)) (@aA _ _ _ _ _ (@cQ _ _ _ _ _ _ _ _ ‹16› (@bF _ _ _ _ _ _ _ _ _ _ _ an5 ‹11› bO (@aD _ _ _ _ _ _ ‹17› (@aB _)) ⋯ ⋯ ⋯ ⋯) (by rfl)) (@aA _ _ _ _ _ (@aW _ _ (5) _ _ _ _ iY.nd (by rfl) (by first | exact Or.inl (by rfl) | exact Or.inr (by rfl)) (@bF _ _ _ _ _ _ _ _ _ _ _ ad5 ‹11› bO (@aD _ _ _ _ _ _ ‹17› (@aB _)) ⋯ ⋯ ⋯ ⋯) ⋯ ⋯) (@aA _ _ _ _ _ (@cQ _ _ _ _ _ _ _ _ ‹16› (@cX _ _ _ _ _ _ _ (fT K) (@pv _ 5 _ _ ⋯ ⋯ ⋯ ⋯) ‹18› (fun _ _=>rfl)) (by rfl)) (@aA _ _ _ _ _ (@cQ _ _ _ _ _ _ _ _ ‹16› (@cX _ _ _ _ _ _ _ (fT K) (@pv _ 5 _ _ ⋯ ⋯ ⋯ ⋯) (@Ed _ _ _ _ _ _ At ‹18›) (fun _ _=>rfl)) (by rfl)) (@aA _ _ _ _ _ (@cQ _ _ _ _ _ _ _ _ ‹16› (@CL _ _ _ _) (by rfl)) (@aA _ _ _ _ _ (@cQ _ _ _ _ _ _ _ _ ‹16› (@oW _ _) (by rfl)) (@aE _ _ _ (@cQ _ _ _ _ _ _ _ _ ‹16› ‹18› (by rfl))))))))))))),?_⟩
  refine zP fun R hR=>?_
  have ddk:∀ {H':Hp},But qu H H'->DiskAt A.disk H' dk df kvs D:=fun b=>hD.keep fun c o e hc=>b c o e (fun z=>by rw[z]at hc; exact nqu hc)
  have j0:Fs A.queue qu dx H H []:=⟨h0,But.refl⟩
  refine⟨_,rfl,_,rfl,_,rfl,.int m,.int h,.int t,.int m,.int h,.int t,rfl,by simp only[Den],by simp only[Den],by simp only[Den],fun _=>?_,(fun z=>by rw[hset]at z; cases z)⟩
  refine⟨_,rfl,_,rfl,qu,_,dx,_,rfl,j0.at_,T.aa0,T.ak9,(le_of_ble_eq_true rfl),?_⟩
  obtain⟨H1,e1,j1⟩:=j0.set "disk" (.ref dk)
  rw[<- e1]
  refine⟨_,rfl,_,rfl,qu,_,dx,_,rfl,j1.at_,T.aa0,T.bo2,(le_of_ble_eq_true rfl),?_⟩
  obtain⟨H2,e2,j2⟩:=j1.set "most" (.int m)
  rw[<- e2]
  refine⟨_,rfl,_,rfl,qu,_,dx,_,rfl,j2.at_,T.aa0,T.bx6,(le_of_ble_eq_true rfl),?_⟩
  obtain⟨H3,e3,j3⟩:=j2.set "hold" (.int h)
  rw[<- e3]
  subst hR
  dsimp only
  refine jP fun R hR=>?_
  refine⟨_,rfl,_,rfl,qu,_,dx,_,rfl,j3.at_,T.aa0,T.bk5,(le_of_ble_eq_true rfl),?_⟩
  obtain⟨H4,e4,j4⟩:=j3.set "tries" (.int t)
  rw[<- e4]
  refine⟨_,rfl,dk,df,kvs,D,rfl,ddk j4.but,he,fun bk de dp H5 S5 hbk hde hdp hB5=>?_⟩
  have n4:∀ {c:Addr},H4 c=none->c≠qu/\H c=none:=fun {c} z=>by
   refine⟨(fun y=>by rw[y,j4.at_]at z; cases z),?_⟩
   cases e:H c with
   | none=>rfl
   | some o=>
    by_cases y:c=qu
    ·rw[y,j4.at_]at z; cases z
    ·rw[j4.but c o e y]at z; cases z
  obtain⟨nbk,ibk⟩:=n4 hbk
  obtain⟨nde,ide⟩:=n4 hde
  obtain⟨ndp,idp⟩:=n4 hdp
  have j5:Fs A.queue qu dx H H5 _:=⟨S5 _ _ j4.at_,fun c o e nc=>S5 _ _ (j4.but c o e nc)⟩
  refine⟨_,rfl,qu,_,dx,_,rfl,j5.at_,T.aa0,T.ae8,(le_of_ble_eq_true rfl),?_⟩
  obtain⟨H6,e6,j6⟩:=j5.set "book" (.ref bk)
  rw[<- e6]
  have k6:∀ c o,H5 c=some o->c≠qu->H6 c=some o:=fun c o e n=>by rw[e6,aF n]; exact e
  have t6:gA H5 H6:=by rw[e6]; exact iV j5.at_ (fun xs z=>by cases z)
  have isb:∀ {c:Addr},c=bk\/c=de\/c=dp->c≠qu/\H c=none:=fun hc=>by
   rcases hc with y | y | y
   ·rw[y]; exact⟨nbk,ibk⟩
   ·rw[y]; exact⟨nde,ide⟩
   ·rw[y]; exact⟨ndp,idp⟩
  have hB6:BookAt A.book H6 bk de dp ⟨[],0,[]⟩:=hB5.keep (fun c o e hc=>k6 c o e (isb hc).1) t6
  have hD6:=ddk j6.but
  subst hR
  dsimp only
  refine jP fun R hR=>?_
  refine⟨_,rfl,dk,df,kvs,D,rfl,hD6,he,fun kvs' d p H7 f7 w7 hD7 gp np=>?_⟩
  have nown:∀ {c:Addr},H c=none->¬ own dk df kvs c:=fun z y=>by
   obtain⟨o,e⟩:=qL hD y
   rw[z]at e
   cases e
  have far:∀ {c:Addr} {o:HO},H6 c=some o->¬ own dk df kvs c->¬ own dk df kvs' c:=fun e nc z=>(w7 _ z).elim nc (fun y=>by rw[y]at e; cases e)
  have h7:=f7 _ _ j6.at_ nqu
  have b7:∀ b o,H b=some o->b≠qu->¬ own dk df kvs b->H7 b=some o:=fun b o e nb no=>f7 b o (j6.but b o e nb) no
  have hB7:BookAt A.book H7 bk de dp ⟨[],0,[]⟩:=hB6.keep (fun c o e hc=>f7 c o e (nown (isb hc).2)) (f7.tup hD6)
  have nqu':¬ own dk df kvs' qu:=far j6.at_ nqu
  have npq:p≠qu:=fun z=>by rw[z,h7]at gp; cases gp
  have j7:Fs A.queue qu dx H7 H7 _:=⟨h7,But.refl⟩
  refine⟨_,rfl,p,_,_,.int 0,rfl,rfl,SqL.of gp,bZ (by decide) rfl,_,rfl,qu,_,dx,_,rfl,j7.at_,T.aa0,T.al0,(le_of_ble_eq_true rfl),?_⟩
  obtain⟨H8,e8,j8⟩:=j7.set "first" (.int 0)
  rw[<- e8]
  subst hR
  refine⟨_,rfl,1,rfl,p,_,_,.int 0,rfl,rfl,SqL.of (j8.but _ _ gp npq),rfl,_,rfl,qu,_,dx,_,rfl,j8.at_,T.aa0,T.ai3,(le_of_ble_eq_true rfl),?_⟩
  obtain⟨H9,e9,j9⟩:=j8.set "last" (.int 0)
  rw[<- e9]
  refine⟨_,rfl,qu,_,dx,_,rfl,j9.at_,T.aa0,T.aj4,(le_of_ble_eq_true rfl),?_⟩
  obtain⟨H10,e10,j10⟩:=j9.set "writing" (.bl false)
  rw[<- e10]
  refine fun hd hhd=>?_
  obtain⟨H11,e11,j11,gh,S11,nhq⟩:=j10.new (o:=.dK []) hhd
  rw[<- e11]
  have hh7:H7 hd=none:=by
   cases e:H7 hd with
   | none=>rfl
   | some o=>rw[j10.but _ _ e nhq]at hhd; cases hhd
  refine⟨_,rfl,qu,_,dx,_,rfl,j11.at_,T.aa0,T.af8,(le_of_ble_eq_true rfl),?_⟩
  obtain⟨H12,e12,j12⟩:=j11.set "holders" (.ref hd)
  rw[<- e12]
  refine⟨_,rfl,qu,_,dx,_,rfl,j12.at_,T.aa0,T.bu5,(le_of_ble_eq_true rfl),?_⟩
  obtain⟨H13,e13,j13⟩:=j12.set "now" (.int 0)
  rw[<- e13]
  have gh13:H13 hd=some (.dK []):=by rw[e13,aF nhq,e12,aF nhq]; exact gh
  have t13:gA H7 H13:=fun b xs e=>j13.but b _ e (fun z=>by rw[z,h7]at e; cases e)
  obtain⟨db,hb1⟩:=hB7.self
  obtain⟨kb,hb2,_⟩:=hB7.ent
  obtain⟨pb,hb3,_⟩:=hB7.par
  obtain⟨dc,hc1⟩:=hB6.self
  obtain⟨kc,hc2,_⟩:=hB6.ent
  obtain⟨pc,hc3,_⟩:=hB6.par
  have in7:∀ {c:Addr},c=bk\/c=de\/c=dp->(∃ o,H7 c=some o)/\∃ o,H6 c=some o:=fun hc=>by
   rcases hc with y | y | y
   ·rw[y]; exact⟨⟨_,hb1⟩,_,hc1⟩
   ·rw[y]; exact⟨⟨_,hb2⟩,_,hc2⟩
   ·rw[y]; exact⟨⟨_,hb3⟩,_,hc3⟩
  have nhd:¬ own dk df kvs' hd:=fun z=>by
   obtain⟨o,e⟩:=qL hD7 z
   rw[hh7]at e
   cases e
  refine qq ⟨qu,dk,df,bk,de,dp,hd,kvs'⟩ d H13 rfl rfl (fun b o e nb no=>j13.but b o (b7 b o e nb no) nb) (fun b hb=>?_) ⟨⟨dx,j13.at_⟩,hD7.keep (fun c o e hc=>j13.but c o e (fun z=>by rw[z]at hc; exact nqu' hc)),hB7.keep (fun c o e hc=>j13.but c o e (isb hc).1) t13,⟨[],gh13,trivial⟩,fun b hb=>?_,⟨fun z=>(isb z).1 rfl,nqu'⟩,⟨nhq,fun z=>?_,nhd⟩⟩
  ·rcases hb with z | z | z | z
   ·exact .inl z
   ·have z:b=hd:=z
    rw[z]
    by_cases y:own dk df kvs hd
    ·exact .inr (.inl y)
    ·refine .inr (.inr ?_)
     cases e:H hd with
     | none=>rfl
     | some o=>rw[b7 _ _ e nhq y]at hh7; cases hh7
   ·exact .inr (.inr (isb z).2)
   ·rcases w7 b z with y | y
    ·exact .inr (.inl y)
    ·by_cases x:b=qu
     ·exact .inl x
     ·refine .inr (.inr ?_)
      cases e:H b with
      | none=>rfl
      | some o=>rw[j6.but b o e x]at y; cases y
  ·obtain⟨_,o,e⟩:=in7 hb
   exact far e (nown (isb hb).2)
  ·obtain⟨⟨o,e⟩,_⟩:=in7 z
   rw[hh7]at e
   cases e
end
theorem gH (r:Rw) (rs:List Rw):bP (r::rs)=cV r.1 r.2.1 r.2.2++bP rs:=by
 unfold bP
 rw[map_cons,flatten_cons]
theorem jU {n m:Int} (hn:cZ n) (hm:cZ m) (e:aQ n=aQ m):n=m:=by
 have h1:=PySem.W.KIN.num_reads hn.1 (Int.lt_of_lt_of_le hn.2 (by decide))
 have h2:=PySem.W.KIN.num_reads hm.1 (Int.lt_of_lt_of_le hm.2 (by decide))
 have e':Str.ofString (toString n)=Str.ofString (toString m):=by rw[<- mQ n,<- mQ m,e]
 rw[e']at h1
 exact Option.some.inj (h1.symm.trans h2)
theorem AO {fs:List (Str × List Int)} {n:Str} (h:n ∉ fs.map (·.1)):aO fs n=none:=by
 unfold aO
 rw[Option.map_eq_none_iff,find?_eq_none]
 intro p hp z
 exact h (by rw[<- of_decide_eq_true z]; exact mem_map_of_mem hp)
theorem uF (fs:List (Str × List Int)) {n x:Str} (h:x≠n):aO (fY fs n) x=aO fs x:=by
 unfold aO fY
 congr 1
 rw[List.find?_filter]
 congr 1
 funext p
 by_cases y:p.1=x
 ·rw[decide_eq_true y,decide_eq_true (show p.1≠n from fun w=>h (y.symm.trans w))]
  rfl
 ·rw[decide_eq_false y]
  exact decide_eq_false (fun w=>by cases w.2)
theorem Fx {es:List (Int × Ent)} {n:Int} (e:Ent) (h:∀ p∈es,p.1<n):cN es n e=es++[(n,e)]:=by
 unfold cN
 rw[if_neg]
 rw[List.any_eq_true]
 rintro ⟨p,hp,z⟩
 have:=h p hp
 have:=of_decide_eq_true z
 omega
theorem GX {B:Bk} {n:Int} (l:Int) (b:List Int) (hp:B.parts=[]) (hk:∀ p∈B.es,p.1<n) (hu:B.up=n):eX l B [("put",n,b)]=some ⟨B.es++[(n,(b,0,l))],n+1,[]⟩:=by
 show (match dJ B "put" n b l with | none=>none | some B'=>some B')=_
 have:dJ B "put" n b l=some ⟨B.es++[(n,(b,0,l))],n+1,[]⟩:=by
  unfold dJ
  rw[if_neg (by decide),if_neg (by decide),if_neg (fun y=>y hp),if_pos rfl]
  unfold oU
  rw[if_neg (by omega),Fx _ hk,hp]
 rw[this]
theorem Am (k:Str) (n:Int):(bP [(k,n,[])]).length=7:=by
 rw[gH,length_append,cS]
 rfl
structure Sz (q:Qs) (n:Nat):Prop where
 left:q.D.left=none
 f0:0<=q.first
 top:q.last<=(n:Int)
 keys:∃ k:Nat,q.last=q.first+(k:Int)/\q.D.fs.map (·.1)=(List.range (k+1)).map fun(i:Nat)=>aQ (q.first+(i:Int))
 len:∀ x bs,aO q.D.fs x=some bs->(bs.length:Int)<=q.most+12
 m8:8<=q.most
 m67:q.most<=87
section
variable {q:Qs} {n:Nat}
theorem Sz.here (h:Sz q n):∃ bs,aO q.D.fs (aQ q.last)=some bs:=by
 obtain⟨k,e,ky⟩:=h.keys
 refine AQ ?_
 rw[ky,mem_map]
 exact⟨k,mem_range.mpr (by omega),by rw[e]⟩
theorem Sz.wok (h:Sz q n) (hn:n<=600) {m:Nat} (hu:0<=q.B.up) (he:q.B.es.length+q.B.parts.length+m<900):WOk q m:=by
 obtain⟨k,e,ky⟩:=h.keys
 have f0:=h.f0
 have top:=h.top
 have m67:=h.m67
 refine⟨h.left,⟨by omega,by omega⟩,⟨by omega,by omega⟩,h.here,AO ?_,fun x bs y=>?_,?_,hu,he⟩
 ·rw[ky,mem_map]
  rintro ⟨i,hi,y⟩
  rw[mem_range]at hi
  have:=jU ⟨by omega,by omega⟩ ⟨by omega,by omega⟩ y
  omega
 ·have:=h.len x bs y
  omega
 ·have:=congrArg List.length ky
  rw[length_map,length_map,length_range]at this
  omega
theorem Sz.step (h:Sz q n) (hn:n<=600) (hu:0<=q.B.up) (hu9:q.B.up<=999999) (he:q.B.es.length+q.B.parts.length<800) {bs:List Int} (hl:bs.length<=13) (B':Bk) (hs:List (Int × (Str × Int))):Sz { pB (aJ q) bs B' with hs:=hs } (n+1)/\(aJ q).last<=(n:Int)+1:=by
 have wok:=h.wok hn (m:=0) hu (by omega)
 obtain⟨k,e,ky⟩:=h.keys
 have m8:=h.m8
 have m67:=h.m67
 have nx:Sz (aJ q) (n+1)/\∃ b0,aO (aJ q).D.fs (aQ (aJ q).last)=some b0/\(b0.length:Int)<(aJ q).most:=by
  obtain⟨b0,hb0⟩:=h.here
  have hlast:fS q=b0:=by unfold fS; rw[hb0]; rfl
  unfold aJ
  split
  ·refine⟨⟨rfl,h.f0,by show q.last+1<=_; have:=h.top; omega,⟨k+1,by show q.last+1=q.first+((k+1:Nat):Int); omega,?_⟩,fun x bs y=>?_,m8,m67⟩,cV "from" q.B.up [],?_,by rw[cS]; show ((7+0:Nat):Int)<q.most; omega⟩
   ·show (dY (q.D.fs++[(aQ (q.last+1),[])]) _ _).map (·.1)=_
    rw[mP,map_append,ky,range_succ (n:=k+1),map_append,e]
    show _++[aQ (q.first+(k:Int)+1)]=_++[aQ (q.first+((k+1:Nat):Int))]
    rw[show q.first+(k:Int)+1=q.first+((k+1:Nat):Int) by omega]
    rfl
   ·rw[iT q wok.new]at y
    split at y
    ·cases y
     rw[cS]
     show ((7+0:Nat):Int)<=q.most+12
     omega
    ·exact h.len x bs y
   ·rw[iT q wok.new]
    exact if_pos rfl
  ·rename_i hf
   refine⟨⟨h.left,h.f0,Int.le_trans h.top (by omega),⟨k,e,ky⟩,h.len,m8,m67⟩,b0,hb0,?_⟩
   rw[hlast]at hf
   unfold wT at hf
   rw[and_eq_true,not_and]at hf
   have:=hf (by rw[Bool.not_eq_true',decide_eq_false_iff_not]; omega)
   rw[decide_eq_true_eq]at this
   omega
 obtain⟨sn,b0,hb0,hb1⟩:=nx
 obtain⟨k',e',ky'⟩:=sn.keys
 have hlast:fS (aJ q)=b0:=by unfold fS; rw[hb0]; rfl
 refine⟨⟨rfl,sn.f0,sn.top,⟨k',e',?_⟩,fun x bs' y=>?_,sn.m8,sn.m67⟩,by have:=sn.top; omega⟩
 ·show (dY (aJ q).D.fs _ _).map (·.1)=_
  rw[mP]
  exact ky'
 ·have y:aO (dY (aJ q).D.fs (aQ (aJ q).last) (fS (aJ q)++bs)) x=some bs':=y
  rw[uE,hb0,hlast]at y
  split at y
  ·cases y
   rw[length_append]
   show (((b0.length+bs.length:Nat)):Int)<=(aJ q).most+12
   omega
  ·exact sn.len x bs' y
theorem Sz.drop (h:Sz q n) (hn:n<=600) (hlt:q.first<q.last):q.D.left=none/\cZ q.first/\(∃ bs,aO q.D.fs (aQ q.first)=some bs)/\Sz (fX q) n:=by
 obtain⟨k,e,ky⟩:=h.keys
 have f0:=h.f0
 have top:=h.top
 obtain⟨k',rfl⟩:∃ k',k=k'+1:=⟨k - 1,by omega⟩
 have ne:∀ i:Nat,i<k'+1->aQ (q.first+1+(i:Int))≠aQ q.first:=fun i hi y=>by
  have:=jU ⟨by omega,by omega⟩ ⟨by omega,by omega⟩ y
  omega
 refine⟨h.left,⟨by omega,by omega⟩,AQ ?_,⟨rfl,by show 0<=q.first+1; omega,h.top,⟨k',by show q.last=q.first+1+_; omega,?_⟩,fun x bs y=>?_,h.m8,h.m67⟩⟩
 ·rw[ky,mem_map]
  exact⟨0,mem_range.mpr (by omega),by rw[show q.first+((0:Nat):Int)=q.first by omega]⟩
 ·show (fY q.D.fs (aQ q.first)).map (·.1)=_
  have e1:(fY q.D.fs (aQ q.first)).map (·.1)=(q.D.fs.map (·.1)).filter fun x=>decide (x≠aQ q.first):=by
   unfold fY
   rw[List.filter_map]
   rfl
  rw[e1,ky,range_succ_eq_map,map_cons,filter_cons,if_neg (by simp),map_map,List.filter_eq_self.mpr]
  ·apply map_congr_left
   intro i _
   show aQ (q.first+((i+1:Nat):Int))=aQ (q.first+1+(i:Int))
   rw[show q.first+((i+1:Nat):Int)=q.first+1+(i:Int) by omega]
  ·intro x hx
   rw[mem_map]at hx
   obtain⟨i,hi,rfl⟩:=hx
   rw[mem_range]at hi
   refine decide_eq_true ?_
   have:=ne i hi
   show aQ (q.first+((i+1:Nat):Int))≠aQ q.first
   rw[show q.first+((i+1:Nat):Int)=q.first+1+(i:Int) by omega]
   exact this
 ·have y:aO (fY q.D.fs (aQ q.first)) x=some bs:=y
  by_cases z:x=aQ q.first
  ·subst z
   have:aO (fY q.D.fs (aQ q.first)) (aQ q.first)=none:=AO (by
    unfold fY
    rw[mem_map]
    rintro ⟨p,hp,ep⟩
    have:=of_decide_eq_true (mem_filter.mp hp).2
    exact this ep)
   rw[this]at y
   cases y
  ·rw[uF _ z]at y
   exact h.len x bs y
end
noncomputable abbrev EE:Stmt:=top 62
noncomputable abbrev BC:Stmt:=top 61
noncomputable abbrev A6:Stmt:=top 63
noncomputable abbrev tG:Stmt:=top 65
noncomputable def EC (x k:Int):Int:=((x * 1103515245+7919 * k+12345) % 2147483647) ^ 5 % 2147483647
theorem EU {a b:Int} (h:0<=a) (h2:a<2147483647):a.natAbs<2 ^ 64:=by omega
def xS (K:PySem.W.Frag):Sp:=fun vs H Q _=>∃ (a:Addr) (ns:List Int) (k:Int),vs=[.ref a,.int k]/\0<=k/\SqL K H a (ns.map V.int)/\Q (.int (ns.getD k.toNat 0)) H
def xO:Sp:=fun vs H Q _=>∃ (x k:Int),vs=[.int x,.int k]/\Q (.int (EC x k)) H
noncomputable def Ex (c p m:Int):Int:=(c * 48271 % p) ^ 3 % p % m
def Az:Sp:=fun vs H Q _=>∃ (c p m:Int),vs=[.int c,.int p,.int m]/\0<p/\p<2147483647/\0<m/\Q (.int (Ex c p m)) H
section
variable {P:Program} {w:World} {K:PySem.W.Frag} {mg:Str->Option Value} {base:Heap} {aa8 aa1:Addr} {A:Ad}
theorem xZ:FnScope ["_law_script","_law_k"] ["_law_script","_law_k"] (aH BC):=‹0›
theorem GJ {f:Addr} {fd:FuncData} (F:Fun K "_law_cell" "_law_cell" BC f fd) (T:TxtQ K mg A):‹6› 1 f fd ["_law_script","_law_k"] (xS K):=by
 refine F.okX xZ (fun vs H Q E h=>?_) (fun cdv A' outer s H vs Q E hr h=>?_)
 ·obtain⟨a,ns,k,rfl,_⟩:=h
  rfl
 ·obtain⟨a,ns,k,rfl,k0,hs,q⟩:=h
  refine⟨_,@aA _ _ _ _ _ (@bG _ _ _ _ _ _ _ _ (@aZ _ _ _ _ _ _ _ _ CN ‹17› (@aY _ _ _ _ _ _ _ _ _ (dQ K) (by rfl) T.ae2 iS (@aD _ _ _ _ _ _ ‹16› (@aB _)) ⋯ ⋯ ⋯ ⋯) (bK _)) (@aE _ _ _ (@bB _ _ _ _ (@cX _ _ _ _ _ _ _ (fT K) ‹16› ‹17› (fun _ _=>rfl)))) (@aR _)) (@aE _ _ _ (@bB _ _ _ _ ‹18›)),?_⟩
  refine⟨_,rfl,_,rfl,a,_,rfl,.inl hs,_,_,rfl,rfl,_,rfl,?_⟩
  rw[length_map]
  show if decide (k<(ns.length:Int))=true then _ else _
  by_cases hk:k<(ns.length:Int)
  ·rw[if_pos (decide_eq_true hk)]
   have hl:k.toNat<ns.length:=by omega
   have eg:ns.getD k.toNat 0=ns[k.toNat]:=by
    rw[getD_eq_getElem?_getD,getElem?_eq_getElem hl]
    rfl
   rw[eg]at q
   exact⟨_,rfl,_,rfl,a,_,_,_,rfl,rfl,hs,bZ k0 (by rw[getElem?_map,getElem?_eq_getElem hl]; rfl),q⟩
  ·rw[if_neg (by simpa using hk)]
   have eg:ns.getD k.toNat 0=0:=by
    rw[getD_eq_getElem?_getD,getElem?_eq_none (by omega)]
    rfl
   rw[eg]at q
   exact q
theorem xX:FnScope ["_law_seed_here","_law_k"] ["_law_seed_here","_law_k"] (aH A6):=‹0›
theorem GC {f:Addr} {fd:FuncData} (F:Fun K "_law_seed" "_law_seed" A6 f fd):‹6› 1 f fd ["_law_seed_here","_law_k"] xO:=by
 refine F.okX xX (fun vs H Q E h=>?_) (fun cdv A' outer s H vs Q E hr h=>?_)
 ·obtain⟨x,k,rfl,_⟩:=h
  rfl
 ·obtain⟨x,k,rfl,q⟩:=h
  refine⟨_,@aE _ _ _ (@bB _ _ _ _ (@bJ _ _ _ _ _ _ _ _ iP (@bJ _ _ _ _ _ _ _ _ El (@bJ _ _ _ _ _ _ _ _ iP (@bJ _ _ _ _ _ _ _ _ eZ (@bJ _ _ _ _ _ _ _ _ eZ (@bJ _ _ _ _ _ _ _ _ qN ‹16› ‹18›) (@bJ _ _ _ _ _ _ _ _ qN ‹18› ‹17›)) ‹18›) ‹18›) ‹18›) ‹18›)),?_⟩
  have e1:=Int.emod_nonneg (x * 1103515245+7919 * k+12345) (show (2147483647:Int)≠0 by decide)
  have e2:=Int.emod_lt_of_pos (x * 1103515245+7919 * k+12345) (show (0:Int)<2147483647 by decide)
  refine⟨_,rfl,_,_,rfl,rfl,.inr ⟨by decide,by decide⟩,_,rfl,_,_,rfl,rfl,.inl ⟨by decide,by decide⟩,_,_,rfl,rfl,_,_,rfl,rfl,_,_,rfl,rfl,(by show (0:Int)<2147483647; decide),_,_,rfl,rfl,⟨by decide,by decide,EU (b:=0) e1 e2⟩,_,_,rfl,rfl,(by show (0:Int)<2147483647; decide),?_⟩
  exact q
theorem zT:FnScope ["_law_cell_here","_law_prime","_law_many"] ["_law_cell_here","_law_prime","_law_many"] (aH EE):=‹0›
theorem HQ {f:Addr} {fd:FuncData} (F:Fun K "_law_mix" "_law_mix" EE f fd):‹6› 1 f fd ["_law_cell_here","_law_prime","_law_many"] Az:=by
 refine F.okX zT (fun vs H Q E h=>?_) (fun cdv A' outer s H vs Q E hr h=>?_)
 ·obtain⟨c,p,m,rfl,_⟩:=h
  rfl
 ·obtain⟨c,p,m,rfl,p0,p9,m0,q⟩:=h
  refine⟨_,@aE _ _ _ (@bB _ _ _ _ (@bJ _ _ _ _ _ _ _ _ iP (@bJ _ _ _ _ _ _ _ _ iP (@bJ _ _ _ _ _ _ _ _ El (@bJ _ _ _ _ _ _ _ _ iP (@bJ _ _ _ _ _ _ _ _ qN ‹16› ‹18›) ‹17›) ‹18›) ‹17›) ‹20›)),?_⟩
  have e1:=Int.emod_nonneg (c * 48271) (show p≠0 by omega)
  have e2:=Int.emod_lt_of_pos (c * 48271) p0
  refine⟨_,rfl,_,_,rfl,rfl,.inr ⟨by decide,by decide⟩,_,rfl,_,_,rfl,rfl,p0,_,_,rfl,rfl,⟨by decide,by decide,EU (b:=0) e1 (by omega)⟩,_,rfl,_,_,rfl,rfl,p0,_,rfl,_,_,rfl,rfl,m0,q⟩
end
def pI (A:Ad):Sp:=fun vs H Q _=>∃ (dk df p:Addr) (kvs:List (Key × V)) (D:Dk) (m h t:Int),vs=[.ref dk,.ref p]/\H p=some (.tup [.int m,.int h,.int t])/\vW (.int m) (.int h) (.int t)=true/\DiskAt A.disk H dk df kvs D/\uV D/\
 ∀ L' d H',L'.dk=dk->(∀ b o,H b=some o->¬ own dk df kvs b->H' b=some o)->(∀ b,iC L' b->own dk df kvs b\/H b=none)->QueueW A H' L' (AG m h t d) false->Q (.ref L'.qu) H'
section
variable {P:Program} {w:World} {K:PySem.W.Frag} {mg:Str->Option Value} {base:Heap} {A:Ad}
theorem vE:FnScope ["_law_disk","_law_settings"] ["_law_disk","_law_settings"] (aH tG):=‹0›
theorem DD {f:Addr} {fd:FuncData} (F:Fun K "_law_queue" "_law_queue" tG f fd) (au9:Maker P w K mg base "Queue" A.queue 8 ["self","disk","most","hold","tries"] (sJ A)):‹6› 10 f fd ["_law_disk","_law_settings"] (pI A):=by
 refine F.okX vE (fun vs H Q E h=>?_) (fun cdv A' outer s H vs Q E hr h=>?_)
 ·obtain⟨dk,df,p,kvs,D,m,h,t,rfl,_⟩:=h
  rfl
 ·obtain⟨dk,df,p,kvs,D,m,h,t,rfl,gp,hst,hD,he,qq⟩:=h
  refine⟨_,@aE _ _ _ (@bB _ _ _ _ (@Gv _ _ _ _ _ _ _ _ _ _ _ _ au9 ‹11› a8 (@aD _ _ _ _ _ _ ‹16› (@aN _ _ _ _ _ _ _ ‹28› (@aN _ _ _ _ _ _ _ ‹28› (@aN _ _ _ _ _ _ _ ‹28› (@aB _))))) ⋯ ⋯ ⋯ ⋯)),?_⟩
  refine⟨_,rfl,_,rfl,p,_,_,.int m,rfl,rfl,SqT.of gp,bZ (by decide) rfl,_,rfl,p,_,_,.int h,rfl,rfl,SqT.of gp,bZ (by decide) rfl,_,rfl,p,_,_,.int t,rfl,rfl,SqT.of gp,bZ (by decide) rfl,fun qu dx hqu hdx ndx=>?_⟩
  have fr:∀ {c o},H c=some o->upd (upd H dx (.own qu)) qu (.ins A.queue dx []) c=some o:=fun {c o} e=>by
   rw[aF (bC e hqu),aF (bC e hdx)]
   exact e
  have nqu:¬ own dk df kvs qu:=fun z=>by
   obtain⟨o,e⟩:=qL hD z
   rw[hqu]at e
   cases e
  have back:∀ {c},upd (upd H dx (.own qu)) qu (.ins A.queue dx []) c=none->H c=none:=fun {c} e=>by
   cases e2:H c with
   | none=>rfl
   | some o=>rw[fr e2]at e; cases e
  refine⟨qu,dx,dk,df,kvs,D,m,h,t,rfl,aC,hD.keep (fun b o e _=>fr e),nqu,hst,he,fun L' d H' eq ed f g hq=>⟨rfl,?_⟩⟩
  subst eq
  refine qq L' d H' ed (fun b o e nb=>f b o (fr e) (bC e hqu) nb) (fun b hb=>?_) hq
  rcases g b hb with z | z | z
  ·rw[z]
   exact .inr hqu
  ·exact .inl z
  ·exact .inr (back z)
end
noncomputable abbrev A8:Stmt:=top 64
noncomputable def Ea (x m:Int):Int:=x / 97 % m
def xP:Sp:=fun vs H Q _=>∃ (x m:Int),vs=[.int x,.int m]/\0<m/\Q (.int (Ea x m)) H
section
variable {P:Program} {w:World} {K:PySem.W.Frag} {mg:Str->Option Value} {base:Heap} {A:Ad}
theorem xY:FnScope ["_law_seed_here","_law_many"] ["_law_seed_here","_law_many"] (aH A8):=‹0›
theorem GE {f:Addr} {fd:FuncData} (F:Fun K "_law_pick" "_law_pick" A8 f fd):‹6› 1 f fd ["_law_seed_here","_law_many"] xP:=by
 refine F.okX xY (fun vs H Q E h=>?_) (fun cdv A' outer s H vs Q E hr h=>?_)
 ·obtain⟨x,k,rfl,_⟩:=h
  rfl
 ·obtain⟨x,m,rfl,m0,q⟩:=h
  refine⟨_,@aE _ _ _ (@bB _ _ _ _ (@bJ _ _ _ _ _ _ _ _ iP (@bJ _ _ _ _ _ _ _ _ yK ‹16› ‹18›) ‹17›)),?_⟩
  exact⟨_,rfl,_,_,rfl,rfl,⟨by decide,by decide⟩,_,rfl,_,_,rfl,rfl,m0,q⟩
end
noncomputable def gE (lg:List (Int × Rw)) (s:Int):List Rw:=(lg.filter fun p=>decide (p.1=s)).map (·.2)
theorem zR (a b:List (Int × Rw)) (s:Int):gE (a++b) s=gE a s++gE b s:=by
 unfold gE
 rw[filter_append,map_append]
theorem zQ (s t:Int) (r:Rw):gE [(s,r)] t=if s=t then [r] else []:=by
 unfold gE
 by_cases h:s=t
 ·rw[if_pos h,filter_cons_of_pos (by exact decide_eq_true h)]
  rfl
 ·rw[if_neg h,filter_cons_of_neg (by simp [h])]
  rfl
theorem Cy {lg:List (Int × Rw)} {s:Int} (h:∀ p∈lg,p.1<s):gE lg s=[]:=by
 unfold gE
 rw[List.filter_eq_nil_iff.mpr fun p hp=>by have:=h p hp; simp; omega]
 rfl
theorem C1 (a b:List Rw):bP (a++b)=bP a++bP b:=by
 unfold bP
 rw[map_append,List.flatten_append]
structure Lg (q:Qs) (lg:List (Int × Rw)):Prop where
 file:∀ s,q.first<=s->s<=q.last->aO q.D.fs (aQ s)=some (bP (gE lg s))
 ok:∀ p∈lg,aS (cA p.2)=true
 top:∀ p∈lg,p.1<=q.last
 srt:lg.Pairwise fun a b=>a.1<=b.1
section
variable {q:Qs} {n:Nat} {lg:List (Int × Rw)}
theorem Lg.next (h:Lg q lg) (z:Sz q n) (hn:n<=600) (hu:0<=q.B.up) (hu9:q.B.up<=999999) (he:q.B.es.length+q.B.parts.length<800):∃ l0,(l0=[]\/l0=[((aJ q).last,(("from",q.B.up,[]):Rw))])/\Lg (aJ q) (lg++l0)/\(aJ q).first=q.first/\q.last<=(aJ q).last/\q.first<=q.last:=by
 have wok:=z.wok hn (m:=0) hu (by omega)
 have top:=z.top
 have f0:=z.f0
 obtain⟨k,ek,_⟩:=z.keys
 unfold aJ
 split
 ·refine⟨[(q.last+1,("from",q.B.up,[]))],.inr rfl,⟨fun s h1 h2=>?_,fun p hp=>?_,fun p hp=>?_,?_⟩,rfl,by show q.last<=q.last+1; omega,by omega⟩
  ·have h1:q.first<=s:=h1
   have h2:s<=q.last+1:=h2
   rw[iT q wok.new,zR,zQ]
   by_cases y:s=q.last+1
   ·subst y
    rw[if_pos rfl,if_pos rfl,Cy (fun p hp=>by have:=h.top p hp; omega),nil_append,gH]
    show _=some (cV "from" q.B.up []++[])
    rw[append_nil]
   ·rw[if_neg (fun e=>y (jU ⟨by omega,by omega⟩ ⟨by omega,by omega⟩ e)),if_neg (fun e=>y e.symm),append_nil]
    exact h.file s h1 (by omega)
  ·rw[mem_append,mem_singleton]at hp
   rcases hp with hp | rfl
   ·exact h.ok p hp
   ·exact rY hu hu9
  ·rw[mem_append,mem_singleton]at hp
   show p.1<=q.last+1
   rcases hp with hp | rfl
   ·have:=h.top p hp
    omega
   ·exact Int.le_refl _
  ·rw[pairwise_append]
   refine⟨h.srt,pairwise_singleton _ _,fun a ha b hb=>?_⟩
   rw[mem_singleton.mp hb]
   have:=h.top a ha
   show a.1<=q.last+1
   omega
 ·refine⟨[],.inl rfl,by rw[append_nil]; exact h,rfl,Int.le_refl _,by omega⟩
theorem Lg.step (h:Lg q lg) (z:Sz q n) (hn:n<=600) (hu:0<=q.B.up) (hu9:q.B.up<=999999) (he:q.B.es.length+q.B.parts.length<800) {r:Rw} (rok:aS (cA r)=true) (B':Bk) (hs:List (Int × (Str × Int))) :
  ∃ l0,(l0=[]\/l0=[((aJ q).last,(("from",q.B.up,[]):Rw))])/\Lg { pB (aJ q) (bP [r]) B' with hs:=hs } (lg++l0++[((aJ q).last,r)]):=by
 obtain⟨l0,hl0,hL,ef,el,fl⟩:=h.next z hn hu hu9 he
 refine⟨l0,hl0,?_⟩
 have top:=z.top
 have f0:=z.f0
 have nl:(aJ q).last<=(n:Int)+1:=by
  unfold aJ
  split
  ·show q.last+1<=_
   omega
  ·omega
 generalize aJ q=x at hL ef el nl ⊢
 have hx:=hL.file x.last (by omega) (Int.le_refl _)
 have hlast:fS x=bP (gE (lg++l0) x.last):=by unfold fS; rw[hx]; rfl
 refine⟨fun s h1 h2=>?_,fun p hp=>?_,fun p hp=>?_,?_⟩
 ·have h1:x.first<=s:=h1
  have h2:s<=x.last:=h2
  show aO (dY x.D.fs (aQ x.last) (fS x++bP [r])) (aQ s)=_
  rw[uE,hx,hlast,zR _ [(x.last,r)],zQ]
  by_cases y:s=x.last
  ·subst y
   rw[if_pos rfl,if_pos rfl,C1]
   rfl
  ·rw[if_neg (fun e=>y (jU ⟨by omega,by omega⟩ ⟨by omega,by omega⟩ e)),if_neg (fun e=>y e.symm),append_nil]
   exact hL.file s h1 h2
 ·rw[mem_append,mem_singleton]at hp
  rcases hp with hp | rfl
  ·exact hL.ok p hp
  ·exact rok
 ·rw[mem_append,mem_singleton]at hp
  rcases hp with hp | rfl
  ·exact hL.top p hp
  ·exact Int.le_refl _
 ·rw[pairwise_append]
  refine⟨hL.srt,pairwise_singleton _ _,fun a ha b hb=>?_⟩
  rw[mem_singleton.mp hb]
  exact hL.top a ha
theorem Lg.drop (h:Lg q lg) (z:Sz q n) (hn:n<=600):Lg (fX q) lg:=by
 have top:=z.top
 have f0:=z.f0
 refine⟨fun s h1 h2=>?_,h.ok,h.top,h.srt⟩
 have h1:q.first+1<=s:=h1
 have h2:s<=q.last:=h2
 show aO (fY q.D.fs (aQ q.first)) (aQ s)=_
 rw[uF _ (fun e=>by
  have:=jU ⟨by omega,by omega⟩ ⟨by omega,by omega⟩ e
  omega)]
 exact h.file s (by omega) h2
end
def vQ (k:Int) (p:Int × Rw):Prop:=p.2.1 = "carried"/\p.2.2.1=k
structure Wc (es:List (Int × Ent)) (lg:List (Int × Rw)):Prop where
 c1:∀ k e,aM es k=some e->(∃ p∈lg,vQ k p)->∃ p∈lg,vQ k p/\p.1=e.2.2
 c2:∀ k,∀ p∈lg,vQ k p->∃ e,aM es k=some e/\p.1<=e.2.2
theorem Wc.plain {es:List (Int × Ent)} {lg:List (Int × Rw)} (h:Wc es lg) {l:Int} {r:Rw} (hr:r.1 ≠ "carried"):Wc es (lg++[(l,r)]):=by
 refine⟨fun k e el ⟨p,hp,hc⟩=>?_,fun k p hp hc=>?_⟩
 ·rw[mem_append,mem_singleton]at hp
  rcases hp with hp | rfl
  ·obtain⟨p',h1,h2,h3⟩:=h.c1 k e el ⟨p,hp,hc⟩
   exact⟨p',mem_append_left _ h1,h2,h3⟩
  ·exact absurd hc.1 hr
 ·rw[mem_append,mem_singleton]at hp
  rcases hp with hp | rfl
  ·exact h.c2 k p hp hc
  ·exact absurd hc.1 hr
theorem Wc.carry {es es':List (Int × Ent)} {lg:List (Int × Rw)} (h:Wc es lg) {k l:Int} {e':Ent} {b:List Int} (hkeep:∀ n,n≠k->aM es' n=aM es n) (hk:aM es' k=some e') (he:e'.2.2=l) (hl:∀ p∈lg,p.1<=l):Wc es' (lg++[(l,(("carried",k,b):Rw))]):=by
 refine⟨fun n e el ⟨p,hp,hc⟩=>?_,fun n p hp hc=>?_⟩
 ·by_cases z:n=k
  ·subst z
   rw[hk]at el
   cases el
   exact⟨(l,(("carried",n,b):Rw)),mem_append_right _ (mem_singleton.mpr rfl),⟨rfl,rfl⟩,he.symm⟩
  ·rw[mem_append,mem_singleton]at hp
   rcases hp with hp | rfl
   ·rw[hkeep n z]at el
    obtain⟨p',h1,h2,h3⟩:=h.c1 n e el ⟨p,hp,hc⟩
    exact⟨p',mem_append_left _ h1,h2,h3⟩
   ·exact absurd hc.2.symm z
 ·rw[mem_append,mem_singleton]at hp
  by_cases z:n=k
  ·subst z
   refine⟨e',hk,?_⟩
   rw[he]
   rcases hp with hp | rfl
   ·exact hl p hp
   ·exact Int.le_refl _
  ·rcases hp with hp | rfl
   ·obtain⟨e,h1,h2⟩:=h.c2 n p hp hc
    exact⟨e,by rw[hkeep n z]; exact h1,h2⟩
   ·exact absurd hc.2.symm z
noncomputable def whF:(Int->Option Int)->List (Int × Rw)->Int->Option Int
 | f,[]=>f
 | f,p::r=>whF (if p.2.1 = "carried" then fun k=>if k=p.2.2.1 then some p.1 else f k else f) r
theorem Aq:∀ (L:List (Int × Rw)) (f:Int->Option Int) (k:Int),(∀ p∈L,¬ vQ k p)->whF f L k=f k
 | [],f,k,_=>rfl
 | p::r,f,k,h=>by
  unfold whF
  rw[Aq r _ k fun x hx=>h x (mem_cons_of_mem _ hx)]
  by_cases hc:p.2.1 = "carried"
  ·rw[if_pos hc]
   exact if_neg fun e=>h p mem_cons_self ⟨hc,e.symm⟩
  ·rw[if_neg hc]
theorem B4:∀ (L:List (Int × Rw)) (f:Int->Option Int) (k:Int),L.Pairwise (fun a b=>a.1<=b.1)->(∃ p∈L,vQ k p)->∃ p∈L,vQ k p/\whF f L k=some p.1/\∀ p'∈L,vQ k p'->p'.1<=p.1
 | [],f,k,_,⟨p,hp,_⟩=>by cases hp
 | p::r,f,k,hs,hx=>by
  rw[List.pairwise_cons]at hs
  by_cases hr:∃ x∈r,vQ k x
  ·obtain⟨x,h1,h2,h3,h4⟩:=B4 r (if p.2.1 = "carried" then fun k=>if k=p.2.2.1 then some p.1 else f k else f) k hs.2 hr
   refine⟨x,mem_cons_of_mem _ h1,h2,by unfold whF; exact h3,fun y hy hc=>?_⟩
   rcases mem_cons.mp hy with rfl | hy
   ·exact hs.1 x h1
   ·exact h4 y hy hc
  ·obtain⟨x,hx1,hx2⟩:=hx
   rcases mem_cons.mp hx1 with rfl | hx1
   ·refine⟨x,mem_cons_self,hx2,?_,fun y hy hc=>?_⟩
    ·unfold whF
     rw[Aq r _ k fun y hy hc=>hr ⟨y,hy,hc⟩,if_pos hx2.1]
     exact if_pos hx2.2.symm
    ·rcases mem_cons.mp hy with rfl | hy
     ·exact Int.le_refl _
     ·exact absurd ⟨y,hy,hc⟩ hr
   ·exact absurd ⟨x,hx1,hx2⟩ hr
theorem Dt {es:List (Int × Ent)} {lg:List (Int × Rw)} {f:Int->Option Int} {first:Int} (w:Wc es lg) (srt:lg.Pairwise fun a b=>a.1<=b.1) (hf:∀ k e,aM es k=some e->(∀ p∈lg,¬ vQ k p)->f k=some e.2.2) (hs:∀ k e,aM es k=some e->first<=e.2.2) {k:Int} {e:Ent} (el:aM es k=some e) :
  whF f (lg.filter fun p=>decide (first<=p.1)) k=some e.2.2:=by
 by_cases hx:∃ p∈lg,vQ k p
 ·obtain⟨p,h1,h2,h3⟩:=w.c1 k e el hx
  have hin:p∈lg.filter fun p=>decide (first<=p.1):=mem_filter.mpr ⟨h1,decide_eq_true (by rw[h3]; exact hs k e el)⟩
  obtain⟨x,y1,y2,y3,y4⟩:=B4 _ f k (srt.sublist List.filter_sublist) ⟨p,hin,h2⟩
  rw[y3]
  obtain⟨e2,z1,z2⟩:=w.c2 k x (mem_filter.mp y1).1 y2
  rw[el]at z1
  cases z1
  have:=y4 p hin h2
  congr 1
  omega
 ·rw[Aq _ _ _ fun p hp hc=>hx ⟨p,(mem_filter.mp hp).1,hc⟩]
  exact hf k e el fun p hp hc=>hx ⟨p,hp,hc⟩
section
variable {es:List (Int × Ent)} {n up:Int} {e:Ent}
theorem AM (h:aM es n=some e):(n,e)∈es:=by
 unfold aM at h
 cases y:es.find? fun p=>decide (p.1=n) with
 | none=>
  rw[y]at h
  cases h
 | some p=>
  rw[y]at h
  cases h
  have h1:=List.mem_of_find?_eq_some y
  have h2:=List.find?_some (p:=fun p:Int × Ent=>decide (p.1=n)) y
  have h2:p.1=n:=of_decide_eq_true h2
  rw[<- h2]
  exact h1
theorem AN (h:aM es n=some e):(es.any fun p=>decide (p.1=n))=true:=List.any_eq_true.mpr ⟨_,AM h,decide_eq_true rfl⟩
theorem jV (h:aM es n=some e) (e':Ent):(cN es n e').map (·.1)=es.map (·.1):=by
 unfold cN
 rw[if_pos (AN h),map_map]
 apply map_congr_left
 intro p _
 show (if p.1=n then (p.1,e') else p).1=p.1
 split <;> rfl
theorem AW:∀ (es:List (Int × Ent)) (n k:Int) (e':Ent),aM (es.map fun p=>if p.1=n then (p.1,e') else p) k=if k=n then (aM es n).map (fun _=>e') else aM es k
 | [],n,k,e'=>by
  split <;> rfl
 | p::r,n,k,e'=>by
  have ih:=AW r n k e'
  unfold aM at ih ⊢
  rw[map_cons,find?_cons,find?_cons,find?_cons]
  have e1:(if p.1=n then (p.1,e') else p).1=p.1:=by split <;> rfl
  rw[e1]
  by_cases h1:p.1=k
  ·rw[decide_eq_true h1]
   by_cases h2:k=n
   ·subst h2
    rw[if_pos h1,if_pos rfl,decide_eq_true h1]
    rfl
   ·rw[if_neg (fun z=>h2 (h1.symm.trans z)),if_neg h2]
  ·rw[decide_eq_false h1]
   by_cases h2:k=n
   ·subst h2
    rw[if_pos rfl,decide_eq_false h1]
    rw[if_pos rfl]at ih
    exact ih
   ·rw[if_neg h2]
    rw[if_neg h2]at ih
    exact ih
theorem fD (h:aM es n=some e) (e':Ent) (k:Int):aM (cN es n e') k=if k=n then some e' else aM es k:=by
 unfold cN
 rw[if_pos (AN h),AW,h]
 rfl
theorem lF (es:List (Int × Ent)) (n k:Int):aM (c8 es n) k=if k=n then none else aM es k:=by
 unfold aM c8
 rw[List.find?_filter]
 by_cases h:k=n
 ·subst h
  rw[if_pos rfl,find?_eq_none.mpr fun p _=>by simp]
  rfl
 ·rw[if_neg h]
  have e1:(fun a:Int × Ent=>decide (decide (a.1≠n)=true/\decide (a.1=k)=true))=fun a=>decide (a.1=k):=by
   funext p
   by_cases z:p.1=k
   ·rw[decide_eq_true z]
    exact decide_eq_true ⟨decide_eq_true (fun y=>h (z.symm.trans y)),rfl⟩
   ·rw[decide_eq_false z]
    exact decide_eq_false (fun y=>Bool.false_ne_true y.2)
  exact congrArg (fun f=>Option.map (·.2) (es.find? f)) e1
theorem Ao (l:Int) (b:List Int) (t:Int) (hu:n+1<=up):eX l ⟨es,up,[]⟩ [("carried",n,t::b)]=some ⟨cN es n (b,t,l),up,[]⟩:=by
 show (match dJ ⟨es,up,[]⟩ "carried" n (t::b) l with | none=>none | some B'=>some B')=_
 have:dJ ⟨es,up,[]⟩ "carried" n (t::b) l=some ⟨cN es n (b,t,l),up,[]⟩:=by
  unfold dJ
  rw[if_neg (by decide),if_neg (by decide),if_neg (fun y=>y rfl),if_neg (by decide),if_neg (by decide),if_pos rfl]
  unfold Ey
  rw[if_neg (show ¬ n+1 > up by omega)]
  rfl
 rw[this]
theorem Gi (l:Int) (h:aM es n=some e):eX l ⟨es,up,[]⟩ [("out",n,[])]=some ⟨cN es n (e.1,e.2.1+1,e.2.2),up,[]⟩:=by
 show (match dJ ⟨es,up,[]⟩ "out" n [] l with | none=>none | some B'=>some B')=_
 have:dJ ⟨es,up,[]⟩ "out" n [] l=some ⟨cN es n (e.1,e.2.1+1,e.2.2),up,[]⟩:=by
  unfold dJ
  rw[if_neg (by decide),if_neg (by decide),if_neg (fun y=>y rfl),if_neg (by decide),if_neg (by decide),if_neg (by decide)]
  show (match aM es n with | none=>_ | some e=>_)=_
  rw[h]
  rfl
 rw[this]
theorem Fg (l:Int) (h:aM es n=some e):eX l ⟨es,up,[]⟩ [("done",n,[])]=some ⟨c8 es n,up,[]⟩:=by
 show (match dJ ⟨es,up,[]⟩ "done" n [] l with | none=>none | some B'=>some B')=_
 have:dJ ⟨es,up,[]⟩ "done" n [] l=some ⟨c8 es n,up,[]⟩:=by
  unfold dJ
  rw[if_neg (by decide),if_neg (by decide),if_neg (fun y=>y rfl),if_neg (by decide),if_neg (by decide),if_neg (by decide)]
  show (match aM es n with | none=>_ | some e=>_)=_
  rw[h]
  rfl
 rw[this]
end
theorem Hs {n t:Int} {b:List Int} (h0:0<=n) (h1:n<=999999) (t0:0<=t) (t9:t<=9) (hb:dW b) (hl:b.length<=60):aS (cA ("carried",n,t::b))=true:=by
 show (kinds.contains "carried" && (bN 0 999999 (.int n) && (cD (.tuple ((t::b).map .int)) && fU "carried" (a9 (.tuple ((t::b).map .int))))))=true
 have e1:bN 0 999999 (.int n)=true:=by
  simp only[bN,and_eq_true,decide_eq_true_eq]
  exact⟨h0,h1⟩
 have e2:cD (.tuple ((t::b).map .int))=true:=o8 (ns:=t::b) (fun x hx=>by
  rcases mem_cons.mp hx with rfl | hx
  ·omega
  ·exact hb x hx)
 have e3:fU "carried" (t::b)=true:=by
  unfold fU
  rw[if_neg (by decide),if_pos rfl]
  rw[decide_eq_true (show 1<=(t::b).length by rw[length_cons]; omega),decide_eq_true (show (t::b).length<=61 by rw[length_cons]; omega),decide_eq_true (show (t::b).headD 0<=9 from t9)]
  rfl
 rw[e1,e2,dP,e3]
 decide +kernel
theorem fK (q:Qs):(aJ q).first=q.first/\q.last<=(aJ q).last:=by
 unfold aJ
 split
 ·exact⟨rfl,by show q.last<=q.last+1; omega⟩
 ·exact⟨rfl,Int.le_refl _⟩
structure Cq (q:Qs) (lg:List (Int × Rw)) (n:Nat):Prop where
 sz:Sz q n
 log:Lg q lg
 wc:Wc q.B.es lg
 pt:q.B.parts=[]
 up:0<=q.B.up/\q.B.up<=30
 so:(q.B.es.map (·.1)).Pairwise (· < ·)
 ent:∀ k e,aM q.B.es k=some e->0<=k/\k+1<=q.B.up/\e.2.2<=q.last/\0<=e.2.1/\e.2.1<=9/\dW e.1/\e.1.length<=5
 cnt:q.B.es.length<=30
theorem mG {n:Int} {e:Ent} (h:e.2.1<=9):dZ n e=(("carried",n,e.2.1::e.1):Rw):=by
 unfold dZ
 rw[if_neg (show ¬ (9:Int)<e.2.1 by omega)]
theorem Cq.carry1 {q:Qs} {lg:List (Int × Rw)} {n:Nat} (h:Cq q lg n) (hn:n<=500) {k:Int} {e:Ent} (el:aM q.B.es k=some e) :
  aS (cA (dZ k e))=true/\WOk q 1/\∃ l0,(l0=[]\/l0=[((aJ q).last,(("from",q.B.up,[]):Rw))])/\eX (aJ q).last (aJ q).B [dZ k e]=some ⟨cN q.B.es k (e.1,e.2.1,(aJ q).last),q.B.up,[]⟩/\
   Cq (pB (aJ q) (bP [dZ k e]) ⟨cN q.B.es k (e.1,e.2.1,(aJ q).last),q.B.up,[]⟩) (lg++l0++[((aJ q).last,dZ k e)]) (n+1):=by
 obtain⟨k0,k1,s1,t0,t9,bok,bl⟩:=h.ent k e el
 obtain⟨u0,u9⟩:=h.up
 have cnt:=h.cnt
 have pl:q.B.parts.length=0:=by rw[h.pt]; rfl
 obtain⟨nf,nl⟩:=fK q
 have nb:=(gY q).2.2.2
 have rok:aS (cA (dZ k e))=true:=by rw[mG t9]; exact Hs k0 (by omega) t0 t9 bok (by omega)
 have len:(bP [dZ k e]).length<=13:=by
  rw[mG t9,gH,length_append,cS]
  show 7+(e.1.length+1)+0<=13
  omega
 obtain⟨l0,hl0,hL⟩:=h.log.step h.sz (by omega) u0 (by omega) (by omega) rok ⟨cN q.B.es k (e.1,e.2.1,(aJ q).last),q.B.up,[]⟩ (aJ q).hs
 have hS:=(h.sz.step (by omega) u0 (by omega) (by omega) len ⟨cN q.B.es k (e.1,e.2.1,(aJ q).last),q.B.up,[]⟩ (aJ q).hs).1
 refine⟨rok,h.sz.wok (by omega) u0 (by omega),l0,hl0,?_,⟨hS,hL,?_,rfl,⟨u0,u9⟩,?_,fun n' e' y=>?_,?_⟩⟩
 ·rw[mG t9,nb,show q.B=⟨q.B.es,q.B.up,[]⟩ by rw[<- h.pt]]
  exact Ao _ _ _ k1
 ·have w1:Wc q.B.es (lg++l0):=by
   rcases hl0 with rfl | rfl
   ·rw[append_nil]
    exact h.wc
   ·exact h.wc.plain (r:=(("from",q.B.up,[]):Rw)) (show ("from" : Str) ≠ "carried" by decide)
  rw[mG t9]
  refine w1.carry (es':=cN q.B.es k (e.1,e.2.1,(aJ q).last)) (e':=(e.1,e.2.1,(aJ q).last)) (fun m hm=>?_) ?_ rfl fun p hp=>?_
  ·rw[fD el,if_neg hm]
  ·rw[fD el,if_pos rfl]
  ·exact hL.top p (mem_append_left _ hp)
 ·show ((cN q.B.es k (e.1,e.2.1,(aJ q).last)).map (·.1)).Pairwise (· < ·)
  rw[jV el]
  exact h.so
 ·have y:aM (cN q.B.es k (e.1,e.2.1,(aJ q).last)) n'=some e':=y
  rw[fD el]at y
  show 0<=n'/\n'+1<=q.B.up/\e'.2.2<=(aJ q).last/\0<=e'.2.1/\e'.2.1<=9/\dW e'.1/\e'.1.length<=5
  by_cases z:n'=k
  ·rw[if_pos z]at y
   cases y
   subst z
   exact⟨k0,k1,Int.le_refl _,t0,t9,bok,bl⟩
  ·rw[if_neg z]at y
   obtain⟨a1,a2,a3,a4⟩:=h.ent n' e' y
   exact⟨a1,a2,Int.le_trans a3 nl,a4⟩
 ·show (cN q.B.es k (e.1,e.2.1,(aJ q).last)).length<=30
  have:=congrArg List.length (jV el (e.1,e.2.1,(aJ q).last))
  rw[length_map,length_map]at this
  omega
theorem Cq.drop {q:Qs} {lg:List (Int × Rw)} {n:Nat} (h:Cq q lg n) (hn:n<=600) (hlt:q.first<q.last):q.D.left=none/\cZ q.first/\(∃ bs,aO q.D.fs (aQ q.first)=some bs)/\Cq (fX q) lg n:=by
 obtain⟨a,b,c,d⟩:=h.sz.drop hn hlt
 exact⟨a,b,c,⟨d,h.log.drop h.sz hn,h.wc,h.pt,h.up,h.so,h.ent,h.cnt⟩⟩
structure Ci (q:Qs) (lg:List (Int × Rw)) (n:Nat) (ns:List Int) (i:Nat) (q':Qs):Prop where
 run:∃ Δ : List (Int × Rw),Cq q' (lg ++ Δ) (n+i)/\(∀ p ∈ Δ,q.last<=p.1)/\((Δ.filter fun p=>decide (p.2.1=("carried" : Str))).map (·.2))=(ns.take i).map fun k=>dZ k ((aM q.B.es k).getD ([],0,0))
 first:q'.first=q.first
 last:q.last<=q'.last
 keys:q'.B.es.map (·.1)=q.B.es.map (·.1)
 up:q'.B.up=q.B.up
 most:q'.most=q.most
 tries:q'.tries=q.tries
 hs:q'.hs=q.hs
 same:∀ k e,aM q.B.es k=some e->∃ l,aM q'.B.es k=some (e.1,e.2.1,l)/\(k∈ns.take i->q.last<=l)/\(k ∉ ns.take i->l=e.2.2)
theorem Ci.zero {q:Qs} {lg:List (Int × Rw)} {n:Nat} (h:Cq q lg n) (ns:List Int):Ci q lg n ns 0 q:=
 ⟨⟨[],by rw[append_nil]; exact h,(fun p hp=>by cases hp),rfl⟩,rfl,Int.le_refl _,rfl,rfl,rfl,rfl,rfl,fun k e el=>⟨e.2.2,el,(fun y=>by cases y),fun _=>rfl⟩⟩
theorem GO (q:Qs):(aJ q).most=q.most:=by
 unfold aJ
 split <;> rfl
theorem Ci.succ {q q':Qs} {lg:List (Int × Rw)} {n i:Nat} {ns:List Int} (h:Ci q lg n ns i q') (hn:n+i<=500) {k:Int} (hk:ns[i]? = some k) (nd:ns.Pairwise (· < ·)) {e:Ent} (e0:aM q.B.es k=some e) :
  ∃ e' B',aM q'.B.es k=some e'/\aS (cA (dZ k e'))=true/\WOk q' 1/\eX (aJ q').last (aJ q').B [dZ k e']=some B'/\Ci q lg n ns (i+1) (pB (aJ q') (bP [dZ k e']) B'):=by
 obtain⟨Δ,cq,dl,dr⟩:=h.run
 obtain⟨l,el,_,l2⟩:=h.same k e e0
 obtain⟨hi,gi⟩:=List.getElem?_eq_some_iff.mp hk
 have nk:k ∉ ns.take i:=fun y=>by
  obtain⟨j,hj,ej⟩:=List.mem_iff_getElem.mp y
  rw[length_take]at hj
  rw[List.getElem_take]at ej
  have:=List.pairwise_iff_getElem.mp nd j i (by omega) hi (by omega)
  omega
 have l2:=l2 nk
 subst l2
 have el:aM q'.B.es k=some e:=el
 have tk:ns.take (i+1)=ns.take i++[k]:=by rw[take_succ,hk]; rfl
 obtain⟨rok,wok,l0,hl0,hf,cq'⟩:=cq.carry1 hn el
 obtain⟨nf,nl⟩:=fK q'
 have hl:=h.last
 refine⟨e,_,el,rok,wok,hf,⟨⟨Δ ++ (l0++[((aJ q').last,dZ k e)]),?_,fun p hp=>?_,?_⟩,nf.trans h.first,Int.le_trans hl nl,?_,h.up,(GO q').trans h.most,(gY q').2.2.1.trans h.tries,(gY q').2.1.trans h.hs,fun m em y=>?_⟩⟩
 ·rw[<- append_assoc,<- append_assoc]
  exact cq'
 ·rw[mem_append,mem_append,mem_singleton]at hp
  rcases hp with hp | hp | rfl
  ·exact dl p hp
  ·rcases hl0 with rfl | rfl
   ·cases hp
   ·rw[mem_singleton.mp hp]
    exact Int.le_trans hl nl
  ·exact Int.le_trans hl nl
 ·have e1:(l0.filter fun p=>decide (p.2.1=("carried" : Str)))=[]:=by
   rcases hl0 with rfl | rfl
   ·rfl
   ·exact filter_cons_of_neg (by show ¬ decide (("from" : Str) = "carried")=true; decide)
  have e2:([((aJ q').last,dZ k e)].filter fun p=>decide (p.2.1=("carried" : Str)))=[((aJ q').last,dZ k e)]:=filter_cons_of_pos (decide_eq_true rfl)
  rw[filter_append,filter_append,e1,e2,nil_append,map_append,dr,tk,map_append]
  show _++[dZ k e]=_++[dZ k ((aM q.B.es k).getD ([],0,0))]
  rw[e0]
  rfl
 ·show (cN q'.B.es k (e.1,e.2.1,(aJ q').last)).map (·.1)=_
  rw[jV el]
  exact h.keys
 ·obtain⟨l',y1,y2,y3⟩:=h.same m em y
  by_cases z:m=k
  ·subst z
   rw[e0]at y
   cases y
   refine⟨(aJ q').last,by show aM (cN _ _ _) m=_; rw[fD el,if_pos rfl],fun _=>Int.le_trans hl nl,fun y=>absurd (by rw[tk]; exact mem_append_right _ (mem_singleton.mpr rfl)) y⟩
  ·refine⟨l',by show aM (cN _ _ _) m=_; rw[fD el,if_neg z]; exact y1,fun y=>?_,fun y=>?_⟩
   ·rw[tk,mem_append,mem_singleton]at y
    rcases y with y | y
    ·exact y2 y
    ·exact absurd y z
   ·exact y3 fun w=>y (by rw[tk]; exact mem_append_left _ w)
noncomputable def eW (many:Nat) (b:Nat->Bool):List Int:=((List.range many).filter b).map fun(i:Nat)=>(i:Int)
theorem qG (i:Nat) (b:Nat->Bool):eW (i+1) b=eW i b++(if b i=true then [(i:Int)] else []):=by
 unfold eW
 rw[range_succ,filter_append,map_append]
 by_cases h:b i=true
 ·rw[if_pos h,filter_cons_of_pos h]
  rfl
 ·rw[if_neg h,filter_cons_of_neg h]
  rfl
theorem lA {i:Nat} {b b':Nat->Bool} (h:∀ j,j<i->b j=b' j):eW i b=eW i b':=by
 unfold eW
 congr 1
 exact List.filter_congr fun j hj=>h j (mem_range.mp hj)
theorem CH {i:Nat} {b:Nat->Bool} {k:Int} (h:k∈eW i b):k<(i:Int):=by
 unfold eW at h
 rw[mem_map]at h
 obtain⟨j,hj,rfl⟩:=h
 have:=mem_range.mp (mem_filter.mp hj).1
 omega
noncomputable def gW (i m:Nat):List Int:=(List.range (m - i)).map fun(j:Nat)=>((i+j:Nat):Int)
theorem mS {i m:Nat} (h:i<m):gW i m=(i:Int)::gW (i+1) m:=by
 unfold gW
 rw[show m - i=(m - (i+1))+1 by omega,range_succ_eq_map,map_cons,map_map]
 congr 1
 apply map_congr_left
 intro j _
 show ((i+(j+1):Nat):Int)=((i+1+j:Nat):Int)
 congr 1
 omega
theorem yF {i m:Nat} {k:Int} (h:k∈gW i m):(i:Int)<=k:=by
 unfold gW at h
 rw[mem_map]at h
 obtain⟨j,_,rfl⟩:=h
 omega
theorem C2 (m:Nat):gW 0 (m+1)=gW 0 m++[(m:Int)]:=by
 unfold gW
 rw[Nat.sub_zero,Nat.sub_zero,range_succ,map_append]
 show _++[((0+m:Nat):Int)]=_
 rw[zero_add]
theorem Cq.write1 {q:Qs} {lg:List (Int × Rw)} {n:Nat} (h:Cq q lg n) (hn:n<=500) {r:Rw} (rok:aS (cA r)=true) (len:(bP [r]).length<=13) (noc:∀ p∈lg,p.2.1≠("carried" : Str)) (hr:r.1≠("carried" : Str)) (B':Bk) (hs:List (Int × (Str × Int))) (pt:B'.parts=[]) (up:0<=B'.up/\B'.up<=30) (so:(B'.es.map (·.1)).Pairwise (· < ·))
  (ent:∀ k e,aM B'.es k=some e->0<=k/\k+1<=B'.up/\e.2.2<=(aJ q).last/\0<=e.2.1/\e.2.1<=9/\dW e.1/\e.1.length<=5) (cnt:B'.es.length<=30) :
  WOk q 1/\∃ l0,(l0=[]\/l0=[((aJ q).last,(("from",q.B.up,[]):Rw))])/\Cq { pB (aJ q) (bP [r]) B' with hs:=hs } (lg++l0++[((aJ q).last,r)]) (n+1)/\∀ p∈lg++l0++[((aJ q).last,r)],p.2.1≠("carried" : Str):=by
 obtain⟨u0,u9⟩:=h.up
 have cnt0:=h.cnt
 have pl:q.B.parts.length=0:=by rw[h.pt]; rfl
 obtain⟨l0,hl0,hL⟩:=h.log.step h.sz (by omega) u0 (by omega) (by omega) rok B' hs
 have hS:=(h.sz.step (by omega) u0 (by omega) (by omega) len B' hs).1
 have nc:∀ p∈lg++l0++[((aJ q).last,r)],p.2.1≠("carried" : Str):=fun p hp=>by
  rw[mem_append,mem_append,mem_singleton]at hp
  rcases hp with (hp | hp) | rfl
  ·exact noc p hp
  ·rcases hl0 with rfl | rfl
   ·cases hp
   ·rw[mem_singleton.mp hp]
    show ("from" : Str) ≠ "carried"
    decide
  ·exact hr
 exact⟨h.sz.wok (by omega) u0 (by omega),l0,hl0,⟨hS,hL,⟨(fun k e _ ⟨p,hp,hc⟩=>absurd hc.1 (nc p hp)),(fun k p hp hc=>absurd hc.1 (nc p hp))⟩,pt,up,so,ent,cnt⟩,nc⟩
structure P1 (q:Qs) (lg:List (Int × Rw)) (n:Nat) (b:Nat->Bool) (i m:Nat):Prop where
 cq:Cq q lg n
 keys:q.B.es.map (·.1)=eW i b++gW i m
 up:q.B.up=(m:Int)
 hk:q.hs.map (·.1)=eW i b
 ha:∀ p∈q.hs,p.2.1=("a" : Str)
 tr:q.tries=9
 tm:∀ k e,aM q.B.es k=some e->e.2.1=if k<(i:Int) then 1 else 0
 im:i<=m
 m30:m<=30
 noc:∀ p∈lg,p.2.1≠("carried" : Str)
 put:∀ k e,aM q.B.es k=some e->(e.2.2,(("put",k,e.1):Rw))∈lg
 uni:∀ p∈lg,p.2.1=("put" : Str)->p.2.2.1<(m:Int)/\∀ e,aM q.B.es p.2.2.1=some e->p.1=e.2.2
 fst:∀ p∈lg,q.first<=p.1
theorem o0 {es:List (Int × Ent)} {k:Int} {e:Ent} (h:aM es k=some e):k∈es.map (·.1):=mem_map.mpr ⟨_,AM h,rfl⟩
section
variable {q:Qs} {lg:List (Int × Rw)} {n i m:Nat} {b b':Nat->Bool}
theorem P1.congr (h:P1 q lg n b i m) (e:∀ j,j<i->b j=b' j):P1 q lg n b' i m:=
 ⟨h.cq,by rw[<- lA e]; exact h.keys,h.up,by rw[<- lA e]; exact h.hk,h.ha,h.tr,h.tm,h.im,h.m30,h.noc,h.put,h.uni,h.fst⟩
theorem uP (h:P1 q lg n b i m) {l0:List (Int × Rw)} {r:Rw} (hl0:l0=[]\/l0=[((aJ q).last,(("from",q.B.up,[]):Rw))]):∀ p∈lg++l0++[((aJ q).last,r)],(aJ q).first<=p.1:=fun p hp=>by
 obtain⟨nf,nl⟩:=fK q
 obtain⟨k,ek,_⟩:=h.cq.sz.keys
 rw[nf]
 rw[mem_append,mem_append,mem_singleton]at hp
 rcases hp with (hp | hp) | rfl
 ·exact h.fst p hp
 ·rcases hl0 with rfl | rfl
  ·cases hp
  ·rw[mem_singleton.mp hp]
   show q.first<=(aJ q).last
   omega
 ·show q.first<=(aJ q).last
  omega
theorem Bo {p:Int × Rw} {l0:List (Int × Rw)} {s u:Int} {r:Rw} (hl0:l0=[]\/l0=[(s,(("from",u,[]):Rw))]) (hp:p∈lg++l0++[(s,r)]):p∈lg\/p.2.1=("from" : Str)\/p=(s,r):=by
 rw[mem_append,mem_append,mem_singleton]at hp
 rcases hp with (hp | hp) | hp
 ·exact .inl hp
 ·rcases hl0 with rfl | rfl
  ·cases hp
  ·rw[mem_singleton.mp hp]
   exact .inr (.inl rfl)
 ·exact .inr (.inr hp)
theorem xN {p:Int × Rw} {l0 l1:List (Int × Rw)} (h:p∈lg):p∈lg++l0++l1:=mem_append_left _ (mem_append_left _ h)
theorem P1.puts (h:P1 q lg n b 0 m) (hn:n<=400) (hm:m<30) {bd:List Int} (bok:dW bd) (bl:bd.length<=5):WOk q 1/\∃ B',eX (aJ q).last (aJ q).B [("put",q.B.up,bd)]=some B'/\∃ lg',P1 (putQ q bd B') lg' (n+1) b 0 (m+1):=by
 have nn:=gY q
 have up:=h.up
 have hk0:q.B.es.map (·.1)=gW 0 m:=h.keys
 have kl:∀ p∈q.B.es,p.1<(m:Int):=fun p hp=>by
  have:p.1∈gW 0 m:=by rw[<- hk0]; exact mem_map_of_mem hp
  unfold gW at this
  rw[mem_map]at this
  obtain⟨j,hj,e⟩:=this
  rw[mem_range]at hj
  omega
 have hlen:q.B.es.length=m:=by
  have:=congrArg List.length hk0
  unfold gW at this
  rw[length_map,length_map,length_range]at this
  omega
 have lk:∀ k,aM (q.B.es++[((m:Int),(bd,0,(aJ q).last))]) k=if k=(m:Int) then some (bd,0,(aJ q).last) else aM q.B.es k:=fun k=>by
  unfold aM
  rw[List.find?_append]
  by_cases z:k=(m:Int)
  ·subst z
   have h0:q.B.es.find? (fun p=>decide (p.1=(m:Int)))=none:=by
    rw[find?_eq_none]
    intro p hp y
    have:=kl p hp
    have:=of_decide_eq_true y
    omega
   rw[h0,if_pos rfl,find?_cons,decide_eq_true rfl]
   rfl
  ·rw[if_neg z,find?_cons,decide_eq_false (fun y=>z y.symm)]
   cases q.B.es.find? (fun p=>decide (p.1=k)) <;> rfl
 have hf:eX (aJ q).last (aJ q).B [("put",q.B.up,bd)]=some ⟨q.B.es++[((m:Int),(bd,0,(aJ q).last))],(m:Int)+1,[]⟩:=by
  rw[nn.2.2.2,up]
  exact GX _ bd h.cq.pt kl up
 have rok:aS (cA ("put",q.B.up,bd))=true:=BF (.inl rfl) (by omega) (by omega) bok (by omega)
 have keys':(q.B.es++[((m:Int),((bd,0,(aJ q).last):Ent))]).map (fun p=>p.1)=gW 0 (m+1):=by
  rw[map_append,hk0,C2]
  rfl
 obtain⟨wok,l0,hl0,cq',nc⟩:=h.cq.write1 (by omega) rok (by rw[gH,length_append,cS]; show 7+bd.length+0<=13; omega) h.noc (show ("put" : Str) ≠ "carried" by decide) ⟨q.B.es++[((m:Int),(bd,0,(aJ q).last))],(m:Int)+1,[]⟩ (aJ q).hs rfl ⟨by show 0<=(m:Int)+1; omega,by show (m:Int)+1<=30; omega⟩
  (by
   rw[show (⟨q.B.es++[((m:Int),(bd,0,(aJ q).last))],(m:Int)+1,[]⟩:Bk).es=q.B.es++[((m:Int),(bd,0,(aJ q).last))] from rfl,map_append,pairwise_append]
   refine⟨h.cq.so,pairwise_singleton _ _,fun x hx y hy=>?_⟩
   rw[mem_singleton.mp hy]
   obtain⟨p,hp,rfl⟩:=mem_map.mp hx
   exact kl p hp)
  (fun k e y=>by
   have y:aM (q.B.es++[((m:Int),(bd,0,(aJ q).last))]) k=some e:=y
   rw[lk]at y
   show 0<=k/\k+1<=(m:Int)+1/\_
   split at y
   ·cases y
    exact⟨by omega,by omega,Int.le_refl _,Int.le_refl _,by show (0:Int)<=9; decide,bok,bl⟩
   ·obtain⟨a1,a2,a3,a4⟩:=h.cq.ent k e y
    exact⟨a1,by omega,Int.le_trans a3 (fK q).2,a4⟩)
  (by show (q.B.es++[((m:Int),(bd,0,(aJ q).last))]).length<=30; rw[length_append]; show q.B.es.length+1<=30; omega)
 refine⟨wok,_,hf,_,⟨cq',keys',by show (m:Int)+1=((m+1:Nat):Int); omega,(congrArg (List.map fun p:Int × (Str × Int)=>p.1) nn.2.1).trans h.hk,fun p hp=>h.ha p (nn.2.1 ▸ hp),nn.2.2.1.trans h.tr,fun k e y=>?_,zero_le _,by omega,nc,fun k e y=>?_,fun p hp z=>?_,uP h hl0⟩⟩
 ·have y:aM (q.B.es++[((m:Int),(bd,0,(aJ q).last))]) k=some e:=y
  rw[lk]at y
  split at y
  ·cases y
   rw[if_neg (by omega)]
  ·exact h.tm k e y
 ·have y:aM (q.B.es++[((m:Int),(bd,0,(aJ q).last))]) k=some e:=y
  rw[lk]at y
  split at y
  ·cases y
   rename_i z
   rw[z,<- up]
   exact mem_append_right _ (mem_singleton.mpr rfl)
  ·exact xN (h.put k e y)
 ·rcases Bo hl0 hp with hp | hp | rfl
  ·obtain⟨a1,a2⟩:=h.uni p hp z
   refine⟨by omega,fun e y=>?_⟩
   have y:aM (q.B.es++[((m:Int),(bd,0,(aJ q).last))]) p.2.2.1=some e:=y
   rw[lk,if_neg (by omega)]at y
   exact a2 e y
  ·rw[z]at hp
   exact absurd hp (by decide)
  ·refine⟨by show q.B.up<_; omega,fun e y=>?_⟩
   have y:aM (q.B.es++[((m:Int),(bd,0,(aJ q).last))]) q.B.up=some e:=y
   rw[lk,if_pos up]at y
   cases y
   rfl
theorem P1.take (h:P1 q lg n b i m) (hn:n<=400) (hi:i<m) (e0:∀ j,j<i->b j=b' j) (e1:b' i=true):(q.B.es.map (·.1)).Pairwise (· <= ·)/\nQ q (q.B.es.map (·.1))=gW i m/\WOk q 1/\∃ B' e,eX (aJ q).last (aJ q).B [("out",(i:Int),[])]=some B'/\aM B'.es (i:Int)=some e/\∃ lg',P1 (outQ q (i:Int) "a" B') lg' (n+1) b' (i+1) m:=by
 have nn:=gY q
 have up:=h.up
 have m30:=h.m30
 obtain⟨e,el⟩:∃ e,aM q.B.es (i:Int)=some e:=eO (by rw[h.keys,mS hi]; exact mem_append_right _ mem_cons_self)
 obtain⟨a1,a2,a3,a4,a5,a6,a7⟩:=h.cq.ent _ e el
 have t0:e.2.1=0:=by rw[h.tm _ e el,if_neg (by omega)]
 have hf:eX (aJ q).last (aJ q).B [("out",(i:Int),[])]=some ⟨cN q.B.es (i:Int) (e.1,e.2.1+1,e.2.2),q.B.up,[]⟩:=by
  rw[nn.2.2.2,show q.B=⟨q.B.es,q.B.up,[]⟩ by rw[<- h.cq.pt]]
  exact Gi _ el
 have rok:aS (cA ("out",(i:Int),[]))=true:=sB (.inl rfl) a1 (by omega)
 obtain⟨wok,l0,hl0,cq',nc⟩:=h.cq.write1 (by omega) rok (by rw[Am]; decide) h.noc (show ("out" : Str) ≠ "carried" by decide) ⟨cN q.B.es (i:Int) (e.1,e.2.1+1,e.2.2),q.B.up,[]⟩ (q.hs++[((i:Int),(("a" : Str),q.now))]) rfl h.cq.up
  (by show ((cN q.B.es (i:Int) (e.1,e.2.1+1,e.2.2)).map (·.1)).Pairwise (· < ·); rw[jV el]; exact h.cq.so)
  (fun k e' y=>by
   have y:aM (cN q.B.es (i:Int) (e.1,e.2.1+1,e.2.2)) k=some e':=y
   rw[fD el]at y
   show 0<=k/\k+1<=q.B.up/\_
   split at y
   ·rename_i z
    cases y
    subst z
    exact⟨a1,a2,Int.le_trans a3 (fK q).2,by show 0<=e.2.1+1; omega,by show e.2.1+1<=9; omega,a6,a7⟩
   ·obtain⟨a1,a2,a3,a4⟩:=h.cq.ent k e' y
    exact⟨a1,a2,Int.le_trans a3 (fK q).2,a4⟩)
  (by
   have:=congrArg List.length (jV el (e.1,e.2.1+1,e.2.2))
   rw[length_map,length_map]at this
   have:=h.cq.cnt
   show (cN q.B.es (i:Int) (e.1,e.2.1+1,e.2.2)).length<=30
   omega)
 have pk:eW (i+1) b'=eW i b++[(i:Int)]:=by rw[qG,if_pos e1,lA e0]
 refine⟨h.cq.so.imp (fun x=>by omega),?_,wok,_,_,hf,by show aM (cN _ _ _) _=_; rw[fD el,if_pos rfl],_,⟨cq',?_,up,?_,fun p hp=>?_,nn.2.2.1.trans h.tr,fun k e' y=>?_,by omega,m30,nc,fun k e' y=>?_,fun p hp z=>?_,uP h hl0⟩⟩
 ·unfold nQ
  rw[h.keys,filter_append]
  have f1:(eW i b).filter (mD q.hs)=[]:=by
   rw[List.filter_eq_nil_iff]
   intro k hk y
   unfold mD hV at y
   rw[Option.isNone_map,Option.isNone_iff_eq_none,find?_eq_none]at y
   rw[<- h.hk,mem_map]at hk
   obtain⟨p,hp,ep⟩:=hk
   exact y p hp (decide_eq_true ep)
  have f2:(gW i m).filter (mD q.hs)=gW i m:=List.filter_eq_self.mpr fun k hk=>by
   unfold mD hV
   rw[Option.isNone_map,Option.isNone_iff_eq_none,find?_eq_none]
   intro p hp y
   have hp1:p.1∈eW i b:=by rw[<- h.hk]; exact mem_map_of_mem hp
   have:=CH hp1
   have:=yF hk
   have:=of_decide_eq_true y
   omega
  rw[f1,f2,nil_append]
  refine List.filter_eq_self.mpr fun k hk=>?_
  obtain⟨e',el'⟩:∃ e,aM q.B.es k=some e:=eO (by rw[h.keys]; exact mem_append_right _ hk)
  have:kJ q.B.es k=0:=by
   unfold kJ
   rw[el']
   show e'.2.1=0
   have:=yF hk
   rw[h.tm k e' el',if_neg (by omega)]
  rw[this,h.tr]
  decide
 ·show (cN q.B.es (i:Int) (e.1,e.2.1+1,e.2.2)).map (·.1)=_
  rw[jV el,h.keys,mS hi,pk,append_assoc]
  rfl
 ·show (q.hs++[((i:Int),(("a" : Str),q.now))]).map (·.1)=_
  rw[map_append,h.hk,pk]
  rfl
 ·have hp:p∈q.hs++[((i:Int),(("a" : Str),q.now))]:=hp
  rw[mem_append,mem_singleton]at hp
  rcases hp with hp | rfl
  ·exact h.ha p hp
  ·rfl
 ·have y:aM (cN q.B.es (i:Int) (e.1,e.2.1+1,e.2.2)) k=some e':=y
  rw[fD el]at y
  split at y
  ·rename_i z
   cases y
   rw[if_pos (by omega)]
   show e.2.1+1=1
   omega
  ·rename_i z
   rw[h.tm k e' y]
   by_cases w:k<(i:Int)
   ·rw[if_pos w,if_pos (by omega)]
   ·rw[if_neg w,if_neg (by omega)]
 ·have y:aM (cN q.B.es (i:Int) (e.1,e.2.1+1,e.2.2)) k=some e':=y
  rw[fD el]at y
  split at y
  ·rename_i z
   cases y
   subst z
   exact xN (h.put _ e el)
  ·exact xN (h.put k e' y)
 ·rcases Bo hl0 hp with hp | hp | rfl
  ·obtain⟨a1,a2⟩:=h.uni p hp z
   refine⟨a1,fun e' y=>?_⟩
   have y:aM (cN q.B.es (i:Int) (e.1,e.2.1+1,e.2.2)) p.2.2.1=some e':=y
   rw[fD el]at y
   split at y
   ·rename_i w
    cases y
    rw[w]at a2
    exact a2 e el
   ·exact a2 e' y
  ·rw[z]at hp
   exact absurd hp (by decide)
  ·exact absurd (show ("out" : Str) = "put" from z) (by decide)
theorem P1.done (h:P1 q lg n b (i+1) m) (hn:n<=400) (e0:∀ j,j<i->b j=b' j) (e2:b i=true) (e1:b' i=false):(∃ tm,hV q.hs (i:Int)=some (("a" : Str),tm))/\WOk q 1/\∃ B',eX (aJ q).last (aJ q).B [("done",(i:Int),[])]=some B'/\∃ lg',P1 (Gz q (i:Int) B') lg' (n+1) b' (i+1) m:=by
 have nn:=gY q
 have up:=h.up
 have m30:=h.m30
 have im:=h.im
 have pk:eW (i+1) b=eW i b++[(i:Int)]:=by rw[qG,if_pos e2]
 have pk':eW (i+1) b'=eW i b:=by rw[qG,if_neg (by rw[e1]; decide),append_nil,lA e0]
 obtain⟨e,el⟩:∃ e,aM q.B.es (i:Int)=some e:=eO (by rw[h.keys,pk]; exact mem_append_left _ (mem_append_right _ (mem_singleton.mpr rfl)))
 obtain⟨a1,a2,a3,a4,a5,a6,a7⟩:=h.cq.ent _ e el
 have hf:eX (aJ q).last (aJ q).B [("done",(i:Int),[])]=some ⟨c8 q.B.es (i:Int),q.B.up,[]⟩:=by
  rw[nn.2.2.2,show q.B=⟨q.B.es,q.B.up,[]⟩ by rw[<- h.cq.pt]]
  exact Fg _ el
 have rok:aS (cA ("done",(i:Int),[]))=true:=sB (.inr (.inr rfl)) a1 (by omega)
 have dk:(c8 q.B.es (i:Int)).map (·.1)=(q.B.es.map (·.1)).filter fun k=>decide (k≠(i:Int)):=by
  unfold c8
  rw[List.filter_map]
  rfl
 obtain⟨wok,l0,hl0,cq',nc⟩:=h.cq.write1 (by omega) rok (by rw[Am]; decide) h.noc (show ("done" : Str) ≠ "carried" by decide) ⟨c8 q.B.es (i:Int),q.B.up,[]⟩ (uW q.hs (i:Int)) rfl h.cq.up
  (by show ((c8 q.B.es (i:Int)).map (·.1)).Pairwise (· < ·); rw[dk]; exact h.cq.so.sublist List.filter_sublist)
  (fun k e' y=>by
   have y:aM (c8 q.B.es (i:Int)) k=some e':=y
   rw[lF]at y
   show 0<=k/\k+1<=q.B.up/\_
   split at y
   ·cases y
   ·obtain⟨a1,a2,a3,a4⟩:=h.cq.ent k e' y
    exact⟨a1,a2,Int.le_trans a3 (fK q).2,a4⟩)
  (by
   have h1:(c8 q.B.es (i:Int)).length<=q.B.es.length:=length_filter_le _ _
   have:=h.cq.cnt
   show (c8 q.B.es (i:Int)).length<=30
   omega)
 have flt:∀ {l:List Int},(∀ k∈l,k≠(i:Int))->l.filter (fun k=>decide (k≠(i:Int)))=l:=fun {l} hl=>List.filter_eq_self.mpr fun k hk=>decide_eq_true (hl k hk)
 have f0:∀ k∈eW i b,k≠(i:Int):=fun k hk=>by have:=CH hk; omega
 have hd:(uW q.hs (i:Int)).map (·.1)=(q.hs.map (·.1)).filter fun k=>decide (k≠(i:Int)):=by
  unfold uW
  rw[List.filter_map]
  rfl
 have f1:((eW i b++[(i:Int)]).filter fun k=>decide (k≠(i:Int)))=eW i b:=by
  rw[filter_append,flt f0,filter_cons_of_neg (by simp),List.filter_nil,append_nil]
 refine⟨?_,wok,_,hf,_,⟨cq',?_,up,?_,fun p hp=>?_,nn.2.2.1.trans h.tr,fun k e' y=>?_,im,m30,nc,fun k e' y=>?_,fun p hp z=>?_,uP h hl0⟩⟩
 ·have hm:(i:Int)∈q.hs.map (·.1):=by rw[h.hk,pk]; exact mem_append_right _ (mem_singleton.mpr rfl)
  obtain⟨p,hp,ep⟩:=mem_map.mp hm
  unfold hV
  cases y:q.hs.find? fun p=>decide (p.1=(i:Int)) with
  | none=>
   rw[find?_eq_none]at y
   exact absurd (decide_eq_true ep) (y p hp)
  | some x=>
   have:=h.ha x (List.mem_of_find?_eq_some y)
   exact⟨x.2.2,by show some x.2=_; rw[<- this]⟩
 ·show (c8 q.B.es (i:Int)).map (·.1)=_
  rw[dk,h.keys,filter_append,pk,f1,pk',flt (fun k hk=>by have:=yF hk; omega)]
 ·show (uW q.hs (i:Int)).map (·.1)=_
  rw[hd,h.hk,pk,f1,pk']
 ·exact h.ha p (mem_filter.mp hp).1
 ·have y:aM (c8 q.B.es (i:Int)) k=some e':=y
  rw[lF]at y
  split at y
  ·cases y
  ·exact h.tm k e' y
 ·have y:aM (c8 q.B.es (i:Int)) k=some e':=y
  rw[lF]at y
  split at y
  ·cases y
  ·exact xN (h.put k e' y)
 ·rcases Bo hl0 hp with hp | hp | rfl
  ·obtain⟨a1,a2⟩:=h.uni p hp z
   refine⟨a1,fun e' y=>?_⟩
   have y:aM (c8 q.B.es (i:Int)) p.2.2.1=some e':=y
   rw[lF]at y
   split at y
   ·cases y
   ·exact a2 e' y
  ·rw[z]at hp
   exact absurd hp (by decide)
  ·exact absurd (show ("done" : Str) = "put" from z) (by decide)
end
theorem num0:cZ 0:=⟨by decide,by decide⟩
theorem AL (bs:List Int) (m:Str):aO [(aQ 0,bs)] m=if m=aQ 0 then some bs else none:=by
 unfold aO
 rw[find?_cons]
 by_cases z:m=aQ 0
 ·rw[if_pos z,decide_eq_true z.symm]
  rfl
 ·rw[if_neg z,decide_eq_false (fun y=>z y.symm)]
  rfl
theorem Step.keepS {H0 Hc Hn:Hp} {L L':Pl} (st:Step L L' Hc Hn) (S:aG H0 Hc) (fr:∀ b,iC L b->H0 b=none):aG H0 Hn/\∀ b,iC L' b->H0 b=none:=by
 refine⟨fun b o e=>st.frm b o (S b o e) (fun z=>by rw[fr b z]at e; cases e),fun b hb=>?_⟩
 rcases st.grow b hb with z | z
 ·exact fr b z
 ·exact S.free z
theorem Hr {σ : St} {H:Hp} {v:V} {k:List V->Hp->Prop} (h:k [v] H):cI (tC v) eQ σ H k:=h
theorem AH {G:Hp} {v1 v2:V} {d:PyData} {Q:VK} (h1:Den G d v1) (h2:Den G d v2) (hs:jR d=true) (hd:PyData.depth d<=64) (q:Q (.bl false) G):rNeD v1 v2 G Q:=by
 refine⟨d,d,h1,h2,mO hs hd,mO hs hd,?_⟩
 rw[uU hs]
 exact q
theorem yX:dD rD 6 (.str "a")=true/\(("a" : Str).length<=1000/\o9 "a" = true):=by decide +kernel
noncomputable def wsK (ws:List (Int × Int)):List (Key × V):=ws.map fun p=>(Sum.inl p.1,V.int p.2)
noncomputable def fE (ws:List (Int × Int)) (k:Int):Option Int:=(ws.find? fun p=>decide (p.1=k)).map (·.2)
noncomputable def jW (ws:List (Int × Int)) (k s:Int):List (Int × Int):=if (ws.any fun p=>decide (p.1=k))=true then ws.map (fun p=>if p.1=k then (p.1,s) else p) else ws++[(k,s)]
theorem CV (a b:Int):decide ((Sum.inl a:Key)=Sum.inl b)=decide (a=b):=by
 by_cases h:a=b
 ·rw[decide_eq_true h,decide_eq_true (by rw[h])]
 ·rw[decide_eq_false h,decide_eq_false (fun z=>h (Sum.inl.inj z))]
theorem B0 (ws:List (Int × Int)) (k s:Int):iB (wsK ws) (Sum.inl k) (V.int s)=wsK (jW ws k s):=by
 have e1:((wsK ws).any fun kv=>decide (kv.1=Sum.inl k))=(ws.any fun p=>decide (p.1=k)):=by
  unfold wsK
  rw[List.any_map]
  congr 1
  funext p
  exact CV p.1 k
 unfold iB jW
 rw[e1]
 split
 ·unfold wsK
  rw[map_map,map_map]
  apply map_congr_left
  intro p _
  show (if (Sum.inl p.1:Key)=Sum.inl k then _ else _)=((Sum.inl (if p.1=k then (p.1,s) else p).1:Key),V.int (if p.1=k then (p.1,s) else p).2)
  by_cases h:p.1=k
  ·rw[if_pos h,if_pos (by rw[h])]
  ·rw[if_neg h,if_neg (fun z=>h (Sum.inl.inj z))]
 ·unfold wsK
  rw[map_append]
  rfl
theorem Bz:∀ (ws:List (Int × Int)) (k:Int),dS (wsK ws) (Sum.inl k)=(fE ws k).map V.int
 | [],k=>rfl
 | p::r,k=>by
  have ih:=Bz r k
  unfold dS fE wsK at *
  rw[map_cons,find?_cons,find?_cons]
  show Option.map _ (match decide ((Sum.inl p.1:Key)=Sum.inl k) with | true=>_ | false=>_)=_
  rw[CV]
  cases decide (p.1=k) with
  | true=>rfl
  | false=>exact ih
theorem Dr (ws:List (Int × Int)):(wsK ws).map (·.1)=(ws.map (·.1)).map Sum.inl:=by
 unfold wsK
 rw[map_map,map_map]
 rfl
theorem DN {ws:List (Int × Int)} {k s:Int} (h:fE ws k=some s):(k,s)∈ws:=by
 unfold fE at h
 cases y:ws.find? fun p=>decide (p.1=k) with
 | none=>
  rw[y]at h
  cases h
 | some p=>
  rw[y]at h
  cases h
  have h1:=List.mem_of_find?_eq_some y
  have h2:=List.find?_some (p:=fun p:Int × Int=>decide (p.1=k)) y
  have h2:p.1=k:=of_decide_eq_true h2
  rw[<- h2]
  exact h1
theorem wH {ws:List (Int × Int)} {k:Int} (h:k∈ws.map (·.1)):∃ s,fE ws k=some s:=by
 unfold fE
 cases y:ws.find? fun p=>decide (p.1=k) with
 | none=>
  rw[find?_eq_none]at y
  obtain⟨p,hp,e⟩:=mem_map.mp h
  exact absurd (decide_eq_true e) (y p hp)
 | some p=>exact⟨_,rfl⟩
theorem oR {ws:List (Int × Int)} {k:Int}:(ws.any fun p=>decide (p.1=k))=true ↔ k∈ws.map (·.1):=by
 rw[List.any_eq_true,mem_map]
 exact⟨fun⟨p,h1,h2⟩=>⟨p,h1,of_decide_eq_true h2⟩,fun⟨p,h1,h2⟩=>⟨p,h1,decide_eq_true h2⟩⟩
theorem wF {ws:List (Int × Int)} {k:Int} (s:Int) (h:k∈ws.map (·.1)):(jW ws k s).map (·.1)=ws.map (·.1):=by
 unfold jW
 rw[if_pos (oR.mpr h),map_map]
 apply map_congr_left
 intro p _
 show (if p.1=k then (p.1,s) else p).1=p.1
 split <;> rfl
theorem EX {ws:List (Int × Int)} {k:Int} (s:Int) (h:k ∉ ws.map (·.1)):jW ws k s=ws++[(k,s)]:=by
 unfold jW
 rw[if_neg (fun z=>h (oR.mp z))]
theorem wG:∀ (ws:List (Int × Int)) (n k s:Int),fE (ws.map fun p=>if p.1=n then (p.1,s) else p) k=if k=n then (fE ws n).map (fun _=>s) else fE ws k
 | [],n,k,s=>by split <;> rfl
 | p::r,n,k,s=>by
  have ih:=wG r n k s
  unfold fE at ih ⊢
  rw[map_cons,find?_cons,find?_cons,find?_cons]
  have e1:(if p.1=n then (p.1,s) else p).1=p.1:=by split <;> rfl
  rw[e1]
  by_cases h1:p.1=k
  ·rw[decide_eq_true h1]
   by_cases h2:k=n
   ·subst h2
    rw[if_pos h1,if_pos rfl,decide_eq_true h1]
    rfl
   ·rw[if_neg (fun z=>h2 (h1.symm.trans z)),if_neg h2]
  ·rw[decide_eq_false h1]
   by_cases h2:k=n
   ·subst h2
    rw[if_pos rfl,decide_eq_false h1]
    rw[if_pos rfl]at ih
    exact ih
   ·rw[if_neg h2]
    rw[if_neg h2]at ih
    exact ih
theorem DM {ws:List (Int × Int)} {n:Int} (s k:Int) (h:n∈ws.map (·.1)):fE (jW ws n s) k=if k=n then some s else fE ws k:=by
 obtain⟨s0,e0⟩:=wH h
 unfold jW
 rw[if_pos (oR.mpr h),wG,e0]
 rfl
theorem QueueW.keep {A:Ad} {H H':Hp} {L:Pl} {q:Qs} {wr:Bool} (h:QueueW A H L q wr) (s:∀ b o,H b=some o->iC L b->H' b=some o) (t:gA H H'):QueueW A H' L q wr:=by
 obtain⟨dx,h1⟩:=h.self
 obtain⟨hk,h2,h3⟩:=h.held
 exact⟨⟨dx,s _ _ h1 (.inl rfl)⟩,h.disk.keep fun b o e hb=>s b o e (.inr (.inr (.inr hb))),h.book.keep (fun b o e hb=>s b o e (.inr (.inr (.inl hb)))) t,⟨hk,s _ _ h2 (.inr (.inl rfl)),h3.t t⟩,h.a_bd,h.a_qu,h.a_hd⟩
structure Kc (A:Ad) (H:Hp) (L0 D0:Addr) (H1:Hp) (L:Pl) (q:Qs):Prop where
 same:aG H H1
 qu:L.qu=L0
 dk:L.dk=D0
 fr:∀ b,iC L b->H b=none
 qw:QueueW A H1 L q false
def Off (H:Hp) (L:Pl) (a:Addr):Prop:=H a=none/\¬ iC L a
section
variable {A:Ad} {H H1 H2:Hp} {L0 D0:Addr} {L L':Pl} {q q':Qs} {n:Nat} {Q:V->Hp->Prop} {E:XK}
theorem Kc.sames (k:Kc A H L0 D0 H1 L q) (s:aG H1 H2):Kc A H L0 D0 H2 L q:=⟨k.same.trans s,k.qu,k.dk,k.fr,k.qw.same s⟩
theorem Kc.step (k:Kc A H L0 D0 H1 L q) (st:Step L L' H1 H2) (hq:QueueW A H2 L' q' false):Kc A H L0 D0 H2 L' q':=by
 obtain⟨s,f⟩:=st.keepS k.same k.fr
 exact⟨s,st.qu.trans k.qu,st.dk.trans k.dk,f,hq⟩
theorem Off.step {a:Addr} {o:HO} (f:Off H L a) (st:Step L L' H1 H2) (ha:H1 a=some o):Off H L' a/\H2 a=some o:=⟨⟨f.1,st.not ha f.2⟩,st.frm _ _ ha f.2⟩
theorem Kc.off (k:Kc A H L0 D0 H1 L q) {a:Addr} (ha:H1 a=none):Off H L a:=⟨k.same.free ha,fun z=>by
 obtain⟨o,e⟩:=mW k.qw z
 rw[e]at ha
 cases ha⟩
theorem Kc.self (k:Kc A H L0 D0 H1 L q):∃ dx,H1 L0=some (.ins A.queue dx (quF L q false)):=by
 obtain⟨dx,h⟩:=k.qw.self
 rw[k.qu]at h
 exact⟨dx,h⟩
theorem Kc.disk (k:Kc A H L0 D0 H1 L q):DiskAt A.disk H1 D0 L.df L.kvs q.D:=by
 have:=k.qw.disk
 rw[k.dk]at this
 exact this
noncomputable def eV (f:Int) (k:Nat):List Int:=(List.range (k+1)).map fun(i:Nat)=>f+(i:Int)
theorem jS {f x:Int} {k:Nat}:x∈eV f k ↔ f<=x/\x<=f+(k:Int):=by
 unfold eV
 rw[mem_map]
 constructor
 ·rintro ⟨i,hi,rfl⟩
  rw[mem_range]at hi
  omega
 ·rintro ⟨h1,h2⟩
  exact⟨(x - f).toNat,mem_range.mpr (by omega),by omega⟩
theorem EB (f:Int) (k:Nat):(eV f k).Pairwise (· <= ·):=by
 unfold eV
 rw[List.pairwise_map]
 exact List.pairwise_lt_range.imp (fun a=>by omega)
theorem iD (f:Int) (k:Nat):(eV f k).length=k+1:=by
 unfold eV
 rw[length_map,length_range]
theorem Sz.seg {k:Nat} (z:Sz q n) (e:q.last=q.first+(k:Int)):q.D.fs.map (·.1)=(eV q.first k).map aQ:=by
 obtain⟨k',e',ky⟩:=z.keys
 have:k'=k:=by omega
 subst this
 rw[ky]
 unfold eV
 rw[map_map]
 rfl
theorem Cn (k:Kc A H L0 D0 H1 L q) (z:Sz q n) (hn:n<=480) {kk:Nat} (ek:q.last=q.first+(kk:Int))
  (go:∀ p sl H2,List.Perm sl (eV q.first kk)->aG H1 H2->H1 p=none->H2 p=some (.lst ((sl.map aQ).map V.str))->Q (.ref p) H2):fA A.disk [.ref D0] H1 Q E:=by
 have sg:=z.seg ek
 have f0:=z.f0
 have top:=z.top
 refine⟨D0,L.df,L.kvs,q.D,rfl,k.disk,?_,fun p ms perm _ H2 s g hp=>?_⟩
 ·have:=congrArg List.length sg
  rw[length_map,length_map,iD]at this
  omega
 ·rw[sg]at perm
  obtain⟨sl,pm,rfl⟩:=Ec aQ perm
  exact go p sl H2 pm s hp g
theorem uM (k:Kc A H L0 D0 H1 L q) (z:Sz q n) (hn:n<=480) {kk:Nat} (ek:q.last=q.first+(kk:Int)) {σ : St} {i:Nat} (e:σ[i]? = some (some (.ref D0)))
  (go:∀ p sl H2,List.Perm sl (eV q.first kk)->aG H1 H2->H1 p=none->H2 p=some (.lst ((sl.map aQ).map V.str))->Q (.ref p) H2):tMe A.disk "names" (fA A.disk) E0 (cR i) eQ σ H1 Q:=by
 obtain⟨dx,h⟩:=k.disk.self
 refine⟨_,e,D0,dx,_,rfl,h,rfl,?_⟩
 show fA A.disk [.ref D0] H1 Q E0
 exact Cn k z hn ek go
theorem AT {s:Int} (h:cZ s) {σ : St} {i:Nat} {H1:Hp} {Q:VK} (e:σ[i]? = some (some (.str (aQ s)))) (q:Q (.int s) H1):tCB zX (cI (tSl ES (cR i) (zM (tC (V.int 1))) mM) eQ) σ H1 Q:=by
 refine⟨_,e,_,rfl,_,rfl,?_,?_⟩
 ·exact le_trans (xU h) (by decide)
 ·refine⟨_,s,rfl,?_,?_,q⟩
  ·rw[mQ]
   exact PySem.W.KIN.num_reads h.1 (Int.lt_of_lt_of_le h.2 (by decide))
  ·rw[mQ]
   exact le_trans (oZ h).2 (by decide)
theorem rS {kk:Nat} (z:Sz q n) (hn:n<=600) (ek:q.last=q.first+(kk:Int)) {s:Int} (h:s∈eV q.first kk):cZ s:=by
 have:=jS.mp h
 have:=z.f0
 have:=z.top
 exact⟨by omega,by omega⟩
theorem CZ {K:PySem.W.Frag} (k:Kc A H L0 D0 H1 L q) (z:Sz q n) (hn:n<=480) {kk:Nat} (ek:q.last=q.first+(kk:Int)) {σ : St} (e:σ[2]? = some (some (.ref D0)))
  (go:∀ p H2,aG H1 H2->H1 p=none->H2 p=some (.lst ((eV q.first kk).map V.int))->Q (.ref p) H2) :
  tCB tN (cI (nZ ["_law_name"] [] (kC K (tMe A.disk "names" (fA A.disk) E0 (cR 2) eQ)) (cO 0) qV (tCB zX (cI (tSl ES (cR 0) (zM (tC (V.int 1))) mM) eQ))) eQ) σ H1 Q:=by
 refine uM k z hn ek e fun p1 sl H2 perm S2 hp1 g2=>?_
 have ln:=perm.length_eq
 rw[iD]at ln
 have f0:=z.f0
 have top:=z.top
 refine⟨p1,rfl,⟨_,SqL.of g2⟩,?_⟩
 refine fF (bT (K:=K) (SqL.of g2)) (by rw[length_map,length_map]; exact le_trans (show _<=1000 by omega) (by decide)) (fun i y _=>∃ s,sl[i]? = some s/\y = .int s) (fun _ _ _ _ _ h=>h) (fun σ=>∃ z,σ = [z]) ?z0 ?_ ?_
 case z0=>exact⟨none,rfl⟩
 ·intro i x σc H3 hi hσ s3 hx Q' hQ'
  obtain⟨zz,rfl⟩:=hσ
  rw[getElem?_map,getElem?_map]at hx
  cases e:sl[i]? with
  | none=>rw[e]at hx; cases hx
  | some s=>
   rw[e]at hx
   cases hx
   exact AT (rS z (by omega) ek (perm.mem_iff.mp (mem_of_getElem? e))) rfl (hQ' _ _ _ ⟨_,rfl⟩ (aG.refl _) ⟨s,e,rfl⟩)
 intro D2 ys H3 hD2 S3 gD hlen hR
 have ey:ys=sl.map V.int:=by
  apply ext_getElem?
  intro j
  cases ej:ys[j]? with
  | none=>
   have h1:=List.getElem?_eq_none_iff.mp ej
   rw[List.getElem?_eq_none_iff.mpr]
   rw[length_map]
   rw[length_map,length_map]at hlen
   omega
  | some y=>
   obtain⟨s,e1,rfl⟩:=hR j y ej
   rw[getElem?_map,e1]
   rfl
 subst ey
 refine⟨D2,sl,rfl,gD,by omega,fun p ms permm pwm hp=>?_⟩
 have em:ms=eV q.first kk:=eA (permm.trans perm) pwm (EB _ _)
 subst em
 exact go p _ (S2.trans (S3.trans (aI hp))) ((S2.trans S3).free hp) aC
theorem nP:∀ rs:List Rw,rs.length<=(bP rs).length
 | []=>le_refl _
 | r::rs=>by
  rw[gH,length_append,cS,length_cons]
  have:=nP rs
  omega
theorem tM:∀ (rs:List Rw) (f:Nat),(∀ r∈rs,aS (cA r)=true)->rs.length<f->gB f (bP rs)=some (rs.map cA,0)
 | rs,0,_,h=>absurd h (Nat.not_lt_zero _)
 | [],f+1,_,_=>rfl
 | r::rs,f+1,h,hf=>by
  rw[gH,C3 (h r mem_cons_self),tM rs f (fun x hx=>h x (mem_cons_of_mem _ hx)) (by rw[length_cons]at hf; omega)]
  rfl
theorem Fu {lg:List (Int × Rw)} (h:Lg q lg) {s:Int}:∀ r∈gE lg s,aS (cA r)=true:=fun r hr=>by
 unfold gE at hr
 obtain⟨p,hp,rfl⟩:=mem_map.mp hr
 exact h.ok p (mem_filter.mp hp).1
theorem CW {K:PySem.W.Frag} {c1 c2 c3 c4:Addr} {lg:List (Int × Rw)} (k:Kc A H L0 D0 H1 L q) (z:Sz q n) (hn:n<=480) (hl:Lg q lg) {kk:Nat} (ek:q.last=q.first+(kk:Int)) {s:Int} (hs:s∈eV q.first kk) {σ : St} (e:σ[2]? = some (some (.ref D0))) {te:TE}
  (ht:∀ (H:Hp) (Q:VK),Q (.str (aQ s)) H->te σ H Q) (go:∀ l xs H2,aG H1 H2->H1 l=none->H2 l=some (.lst xs)->aV H2 ((gE lg s).map cA) xs->Q (.ref l) H2) :
  tOp (qF K) (tFn (d8 c1 c2) E0 (cI (tMe A.disk "read" (iW A.disk c3 c4) E0 (cR 2) (cI te eQ)) eQ)) (tC (V.int 0)) σ H1 Q:=by
 obtain⟨dx,h⟩:=k.disk.self
 have nk:=rS z (by omega) ek hs
 have hw:=jT nk
 have hm:=jS.mp hs
 have hf:=hl.file s hm.1 (by omega)
 refine⟨_,e,D0,dx,_,rfl,h,rfl,ht _ _ ?_⟩
 refine⟨D0,L.df,L.kvs,q.D,.str (aQ s),.str (aQ s),rfl,k.disk,by simp only[Den],pN nk,(fun z=>by rw[hw]at z; cases z),fun n' e' _=>?_⟩
 injection e' with e'
 subst e'
 refine⟨(fun z=>by rw[hf]at z; cases z),fun bs' e' p1 H2 S2 g2=>?_⟩
 rw[hf]at e'
 cases e'
 have rok:=Fu hl (s:=s)
 have isb:cD (.tuple ((bP (gE lg s)).map .int))=true:=o8 (qZ rok)
 have len:=z.len _ _ hf
 have m67:=z.m67
 refine⟨.ref p1,.tuple ((bP (gE lg s)).map .int),rfl,by simp only[Den]; exact⟨p1,_,rfl,g2,b8.mpr rfl⟩,(fun bs' e=>?_),(fun z=>by rw[isb]at z; cases z),fun _=>?_⟩
 ·injection e with e
  rw[<- e,length_map]
  exact le_trans (show _<=1000 by omega) (by decide)
 rw[dP]
 have er0:=tM (gE lg s) ((bP (gE lg s)).length+1) rok (by have:=nP (gE lg s); omega)
 refine⟨fun ds k' er p2 H3 S3 d3 fr=>?_,(fun z=>by rw[er0]at z; cases z)⟩
 rw[er0]at er
 cases er
 simp only[Den,aV]at d3
 obtain⟨_,_,e1,gf,_,_,rfl,⟨pL,ys,rfl,gL,dL⟩,_,_,rfl,rfl,rfl⟩:=d3
 cases e1
 exact⟨p2,_,_,.ref pL,rfl,rfl,SqT.of gf,bZ (by decide) rfl,go pL ys H3 (S2.trans S3) (S2.free (fr _ _ gf)) gL dL⟩
end
def kH (S:Addr->Prop) (H H':Hp):Prop:=∀ b o,H b=some o->¬ S b->H' b=some o
theorem kH.trans {S:Addr->Prop} {H H1 H2:Hp} (a:kH S H H1) (b:kH S H1 H2):kH S H H2:=fun c o e n=>b c o (a c o e n) n
theorem aG.buts {S:Addr->Prop} {H H1:Hp} (s:aG H H1):kH S H H1:=fun c o e _=>s c o e
theorem kH.upd {S:Addr->Prop} {H H1:Hp} (s:kH S H H1) {a:Addr} (h:S a) (o:HO):kH S H (upd H1 a o):=fun c u e n=>by
 rw[aF (fun z=>n (by rw[z]; exact h))]
 exact s c u e n
theorem kH.tup {S:Addr->Prop} {H H1:Hp} (s:kH S H H1) (nt:∀ b,S b->∀ xs,H b≠some (.tup xs)):gA H H1:=fun b xs e=>s b _ e fun z=>nt b z xs e
open Classical in
noncomputable def Ag (H1:Hp) (L:Pl):Hp:=fun b=>if iC L b then none else H1 b
theorem GM {A:Ad} {H:Hp} {L:Pl} {q:Qs} (h:QueueW A H L q false) {b:Addr} (hb:iC L b) (xs:List V):H b≠some (.tup xs):=fun e=>by
 obtain⟨dx,h1⟩:=h.self
 obtain⟨hk,h2,_⟩:=h.held
 obtain⟨db,b1⟩:=h.book.self
 obtain⟨kb,b2,_⟩:=h.book.ent
 obtain⟨ps,b3,_⟩:=h.book.par
 obtain⟨dd,d1⟩:=h.disk.self
 rcases hb with z | z | (z | z | z) | (z | z | z)
 ·rw[z,h1]at e; cases e
 ·rw[z,h2]at e; cases e
 ·rw[z,b1]at e; cases e
 ·rw[z,b2]at e; cases e
 ·rw[z,b3]at e; cases e
 ·rw[z,d1]at e; cases e
 ·rw[z,h.disk.files]at e; cases e
 ·obtain⟨ys,e2⟩:=o7 h.disk.rel z
  rw[e2]at e
  cases e
section
variable {A:Ad} {H H1 H2:Hp} {L0 D0:Addr} {L L':Pl} {q q':Qs} {n:Nat} {Q:V->Hp->Prop} {E:XK}
theorem Kc.buts (k:Kc A H L0 D0 H1 L q) {S:Addr->Prop} (bt:kH S H1 H2) (off:∀ b,S b->Off H L b) (nt:∀ b,S b->∀ xs,H1 b≠some (.tup xs)):Kc A H L0 D0 H2 L q:=
 ⟨fun b o e=>bt b o (k.same b o e) (fun z=>by rw[(off b z).1]at e; cases e),k.qu,k.dk,k.fr,k.qw.keep (fun b o e hb=>bt b o e fun z=>(off b z).2 hb) (bt.tup nt)⟩
theorem Kc.base (k:Kc A H L0 D0 H1 L q):Kc A (Ag H1 L) L0 D0 H1 L q:=⟨fun b o e=>by unfold Ag at e; split at e <;> first | cases e | exact e,k.qu,k.dk,fun b hb=>if_pos hb,k.qw⟩
theorem Bv {b:Addr} {o:HO} (h:H1 b=some o) (n:¬ iC L b):Ag H1 L b=some o:=by
 unfold Ag
 rw[if_neg n]
 exact h
theorem Kc.cutS (k:Kc A H L0 D0 H1 L q):aG H (Ag H1 L):=fun b o e=>Bv (k.same b o e) fun z=>by rw[k.fr b z]at e; cases e
theorem Kc.cutT (k:Kc A H L0 D0 H1 L q):gA H1 (Ag H1 L):=fun b xs e=>Bv e fun z=>GM k.qw z xs e
theorem Kc.due (k:Kc A H L0 D0 H1 L q) {p:Addr} {ds:List PyData} (td:dE ds=true) (o:¬ iC L p) (d:Den H1 (.list ds) (.ref p)):Den (Ag H1 L) (.list ds) (.ref p):=by
 simp only[Den]at d ⊢
 obtain⟨p',xs,e,g,dd⟩:=d
 cases e
 exact⟨p,xs,rfl,Bv g o,iR k.cutT td dd⟩
theorem AR (es:List (Int × Ent)):∀ ks:List Int,dE (ks.map (fR es))=true
 | []=>rfl
 | k::ks=>by
  show (lN (fR es k) && dE (ks.map (fR es)))=true
  rw[AR es ks]
  unfold fR
  rw[CQ]
  rfl
theorem oP:∀ rs:List Rw,dE (rs.map cA)=true
 | []=>rfl
 | r::rs=>by
  show (lN (cA r) && dE (rs.map cA))=true
  rw[oP rs]
  unfold cA
  rw[mR]
  rfl
theorem Hi {K:PySem.W.Frag} {pd:Addr} {es:List (Int × Ent)} {ks:List Int} (hd:Den H1 (.list (ks.map (fR es))) (.ref pd)) (hl:ks.length<=1000) {σ : St} {i:Nat} (e:σ[i]? = some (some (.ref pd)))
  (go:∀ p H2,aG H1 H2->H1 p=none->H2 p=some (.lst (ks.map V.int))->Q (.ref p) H2):nZ ["_law_letter"] [] (kC K (cR i)) (cO 0) qV (tOp (qF K) (cR 0) (tC (V.int 0))) σ H1 Q:=by
 simp only[Den]at hd
 obtain⟨_,xs,e1,gx,dds⟩:=hd
 cases e1
 have lds:=dds.length
 rw[length_map]at lds
 refine⟨_,e,pd,rfl,⟨_,SqL.of gx⟩,?_⟩
 refine fF (bT (K:=K) (SqL.of gx)) (le_trans (show _<=1000 by omega) (by decide)) (fun j y _=>(ks.map V.int)[j]? = some y) (fun _ _ _ _ _ h=>h) (fun σ=>∃ z,σ = [z]) ?c0 ?_ ?_
 case c0=>exact⟨none,rfl⟩
 ·intro j x σc H3 hj hσ s3 hx Q' hQ'
  obtain⟨zz,rfl⟩:=hσ
  obtain⟨dd,hd,dn⟩:=dds.get hx
  rw[getElem?_map]at hd
  cases el:ks[j]? with
  | none=>
   rw[el]at hd
   cases hd
  | some y=>
   rw[el]at hd
   cases hd
   obtain⟨t,b',et,g,_⟩:=kB (dn.same s3)
   subst et
   refine⟨_,rfl,t,_,_,.int y,rfl,rfl,SqT.of g,bZ (by decide) rfl,?_⟩
   exact hQ' _ _ _ ⟨_,rfl⟩ (aG.refl _) (by rw[getElem?_map,el]; rfl)
 intro pc ys H3 hpc S3 gc hlen hR
 have ey:ys=ks.map V.int:=by
  apply ext_getElem?
  intro j
  cases e:ys[j]? with
  | none=>
   have:ys.length<=j:=List.getElem?_eq_none_iff.mp e
   rw[getElem?_eq_none (by rw[length_map]; omega)]
  | some y=>rw[hR j y e]
 subst ey
 exact go pc H3 S3 hpc gc
end
structure I1 (es:List (Int × Ent)) (ws:List (Int × Int)):Prop where
 own:∀ p∈ws,p.1∈es.map (·.1)/\p.2=gT es p.1
 nd:(ws.map (·.1)).Nodup
theorem I1.len {es:List (Int × Ent)} {ws:List (Int × Int)} (h:I1 es ws) (nk:(es.map (·.1)).Nodup):(ws.map (·.1)).length<=es.length:=by
 have pm:List.Perm (ws.map (·.1)) ((es.map (·.1)).filter fun x=>decide (x∈ws.map (·.1))):=(List.perm_ext_iff_of_nodup h.nd (List.Pairwise.filter _ nk)).mpr fun x=>by
  rw[mem_filter,decide_eq_true_eq]
  refine⟨fun hx=>⟨?_,hx⟩,fun hx=>hx.2⟩
  obtain⟨p,hp,e⟩:=mem_map.mp hx
  rw[<- e]
  exact(h.own p hp).1
 have h1:=pm.length_eq
 have h2:=length_filter_le (fun x=>decide (x∈ws.map (·.1))) (es.map (·.1))
 rw[length_map (as:=es)]at h2
 omega
theorem I1.put {es:List (Int × Ent)} {ws:List (Int × Int)} (h:I1 es ws) {k s:Int} (hk:k∈es.map (·.1)) (hs:s=gT es k):I1 es (jW ws k s)/\(∀ x,x∈ws.map (·.1)->x∈(jW ws k s).map (·.1))/\k∈(jW ws k s).map (·.1):=by
 by_cases hin:k∈ws.map (·.1)
 ·have e:=wF s hin
  refine⟨⟨fun p hp=>?_,by rw[e]; exact h.nd⟩,by rw[e]; exact fun x hx=>hx,by rw[e]; exact hin⟩
  unfold jW at hp
  rw[if_pos (oR.mpr hin)]at hp
  obtain⟨p0,h0,e0⟩:=mem_map.mp hp
  by_cases z:p0.1=k
  ·rw[if_pos z]at e0
   rw[<- e0]
   exact⟨by rw[z]; exact hk,by rw[z]; exact hs⟩
  ·rw[if_neg z]at e0
   rw[<- e0]
   exact h.own p0 h0
 ·rw[EX s hin]
  refine⟨⟨fun p hp=>?_,?_⟩,fun x hx=>?_,?_⟩
  ·rw[mem_append,mem_singleton]at hp
   rcases hp with hp | rfl
   ·exact h.own p hp
   ·exact⟨hk,hs⟩
  ·rw[map_append,List.nodup_append]
   refine⟨h.nd,by simp,fun a ha b hb=>?_⟩
   have hb:b∈[k]:=hb
   rw[mem_singleton.mp hb]
   exact fun z=>hin (by rw[<- z]; exact ha)
  ·rw[map_append]
   exact mem_append_left _ hx
  ·rw[map_append]
   exact mem_append_right _ (mem_singleton.mpr rfl)
section
variable {A:Ad} {H H1:Hp} {L0 D0:Addr} {L:Pl} {q:Qs} {n m:Nat} {b:Nat->Bool} {lg:List (Int × Rw)} {K:PySem.W.Frag} {c1 c2 c3 c4:Addr}
theorem walk1 {a pd pw:Addr} {mo:V} {mn:V} {z5 z8 z9 z10 z11 z12 z13 z14 z15:Option V} {bb:TS} {D:Ends} (k:Kc A H L0 D0 H1 L q) (p1:P1 q lg n b m m) (hn:n<=400)
  (hd:Den H (.list ((q.B.es.map (·.1)).map (fR q.B.es))) (.ref pd)) (gw:H1 pw=some (.dK [])) (ow:Off H L pw)
  (go:∀ H2 ws z8 z9,Kc A H L0 D0 H2 L q->H2 pw=some (.dK (wsK ws))->List.Perm (ws.map (·.1)) (q.B.es.map (·.1))->(∀ x,x∈q.B.es.map (·.1)->fE ws x=some (gT q.B.es x))->
   bb D [some (.ref a),some mo,some (.ref D0),some (.ref L0),some mn,z5,some (.ref pd),some (.ref pw),z8,z9,z10,z11,z12,z13,z14,z15] H2) :
  hW (Ay (kC K (tMe A.disk "names" (fA A.disk) E0 (cR 2) eQ)) (cO 8)
   (Ay (kC K (tOp (qF K) (tFn (d8 c1 c2) E0 (cI (tMe A.disk "read" (iW A.disk c3 c4) E0 (cR 2) (cI (cR 8) eQ)) eQ)) (tC (V.int 0)))) (cO 9)
    (Dz (tAnd (sH (tOp rEq (tOp (qF K) (cR 9) (tC (V.int 0))) (tC (V.str "put")))) (sH (tOp (rIn K false) (tOp (qF K) (cR 9) (tC (V.int 1))) (nZ ["_law_letter"] [] (kC K (cR 6)) (cO 0) qV (tOp (qF K) (cR 0) (tC (V.int 0)))))))
     (EG (cR 7) (tOp (qF K) (cR 9) (tC (V.int 1))) (tCB zX (cI (tSl ES (cR 8) (zM (tC (V.int 1))) mM) eQ))) B7))) bb D
   [some (.ref a),some mo,some (.ref D0),some (.ref L0),some mn,z5,some (.ref pd),some (.ref pw),z8,z9,z10,z11,z12,z13,z14,z15] H1:=by
 have sz:=p1.cq.sz
 obtain⟨kk,ek,_⟩:=sz.keys
 have hl:=p1.cq.log
 have nk:(q.B.es.map (·.1)).Nodup:=p1.cq.so.imp (fun h=>by omega)
 have cnt:=p1.cq.cnt
 refine uM k sz (by omega) ek rfl fun pn sl H2 perm S2 hpn g2=>?_
 have k2:=k.sames S2
 have gw2:=S2 _ _ gw
 have npw:pn≠pw:=fun z=>by rw[z,gw]at hpn; cases hpn
 have nt2:∀ b,b=pw->∀ xs,H2 b≠some (.tup xs):=fun b e xs z=>by rw[e,gw2]at z; cases z
 have off:∀ b,b=pw->Off H L b:=fun b e=>by rw[e]; exact ow
 refine⟨pn,rfl,⟨_,SqL.of g2⟩,?_⟩
 refine hG (bT (K:=K) (H:=upd (fun _=>none) pn (.lst ((sl.map aQ).map V.str))) (SqL.of aC)) (fun j σ H'=>∃ ws z8 z9,kH (· = pw) H2 H'/\H' pw=some (.dK (wsK ws))/\I1 q.B.es ws/\(∀ p∈lg,p.1∈sl.take j->p.2.1=("put" : Str)->p.2.2.1∈q.B.es.map (·.1)->p.2.2.1∈ws.map (·.1))/\
  σ = [some (.ref a),some mo,some (.ref D0),some (.ref L0),some mn,z5,some (.ref pd),some (.ref pw),z8,z9,z10,z11,z12,z13,z14,z15]) ⟨[],_,_,aG.buts (aG.refl _),gw2,⟨(fun p hp=>by cases hp),List.nodup_nil⟩,(fun p _ h=>by cases h),rfl⟩ (fun j σ H' hh c o e=>?_) ?_ ?_
 ·obtain⟨_,_,_,bt,_⟩:=hh
  by_cases y:c=pn
  ·subst y
   rw[aC]at e
   injection e with e
   rw[<- e]
   exact bt _ _ g2 npw
  ·rw[aF y]at e
   cases e
 ·rintro D1 j x σ H5 H6 hD1 - hj ⟨ws,w8,w9,bt,gp,i1,done,rfl⟩ s6 hx
  rw[length_map,length_map]at hj
  have hx:((sl.map aQ).map V.str)[j]? = some x:=hx
  rw[getElem?_map,getElem?_map]at hx
  obtain⟨s,es⟩:∃ s,sl[j]? = some s:=⟨_,getElem?_eq_getElem hj⟩
  rw[es]at hx
  cases hx
  have hs:s∈eV q.first kk:=perm.mem_iff.mp (mem_of_getElem? es)
  have bt6:kH (· = pw) H2 H6:=bt.trans (aG.buts s6)
  have k6:=k2.buts bt6 off nt2
  refine CW k6 sz (by omega) hl ek hs rfl (fun H Q h=>⟨_,rfl,h⟩) fun l xs H7 S7 hl0 g7 d7=>?_
  have k7:=k6.sames S7
  have gp7:=S7 _ _ (s6 _ _ gp)
  have nlp:l≠pw:=fun z=>by rw[z,s6 _ _ gp]at hl0; cases hl0
  have nt7:∀ b,b=pw->∀ xs,H7 b≠some (.tup xs):=fun b e xs z=>by rw[e,gp7]at z; cases z
  have ln:=d7.length
  rw[length_map]at ln
  refine⟨l,rfl,⟨_,SqL.of g7⟩,?_⟩
  refine hG (bT (K:=K) (H:=upd (fun _=>none) l (.lst xs)) (SqL.of aC)) (fun t σ H'=>∃ ws' w9,kH (· = pw) H7 H'/\H' pw=some (.dK (wsK ws'))/\I1 q.B.es ws'/\(∀ x,x∈ws.map (·.1)->x∈ws'.map (·.1))/\(∀ r∈(gE lg s).take t,r.1=("put" : Str)->r.2.1∈q.B.es.map (·.1)->r.2.1∈ws'.map (·.1))/\
   σ = [some (.ref a),some mo,some (.ref D0),some (.ref L0),some mn,z5,some (.ref pd),some (.ref pw),some (.str (aQ s)),w9,z10,z11,z12,z13,z14,z15]) ⟨ws,_,aG.buts (aG.refl _),gp7,i1,(fun _ h=>h),(fun p h=>by cases h),rfl⟩ (fun t σ H' hh c o e=>?_) ?_ ?_
  ·obtain⟨_,_,bt,_⟩:=hh
   by_cases y:c=l
   ·subst y
    rw[aC]at e
    injection e with e
    rw[<- e]
    exact bt _ _ g7 nlp
   ·rw[aF y]at e
    cases e
  ·rintro D2 t x σ H8 H9 hD2 - ht ⟨ws',w9',bt8,gp8,i8,inc,dn8,rfl⟩ s9 hx
   have hx:xs[t]? = some x:=hx
   have ht:t<xs.length:=ht
   have bt9:kH (· = pw) H7 H9:=bt8.trans (aG.buts s9)
   have k9:=k7.buts bt9 off nt7
   have d9:=iR (bt9.tup nt7) (oP _) d7
   obtain⟨dd,hdd,dr⟩:=d9.get hx
   rw[getElem?_map]at hdd
   obtain⟨r,er⟩:∃ r,(gE lg s)[t]? = some r:=⟨_,getElem?_eq_getElem (by omega)⟩
   rw[er]at hdd
   cases hdd
   obtain⟨tt,bb',rfl,gt,gb⟩:=tL dr
   have rin:(s,r)∈lg:=by
    have:=mem_of_getElem? er
    unfold gE at this
    obtain⟨p,hp,ep⟩:=mem_map.mp this
    obtain⟨h1,h2⟩:=mem_filter.mp hp
    have h2:p.1=s:=of_decide_eq_true h2
    rw[<- h2,<- ep]
    exact h1
   have tk:(gE lg s).take (t+1)=(gE lg s).take t++[r]:=by rw[take_succ,er]; rfl
   have gp9:=s9 _ _ gp8
   refine⟨_,rfl,tt,_,_,.str r.1,rfl,rfl,SqT.of gt,bZ (by decide) rfl,rfl,_,rfl,?_⟩
   by_cases hput:r.1 = "put"
   ·rw[fW hput]
    refine aX ⟨_,rfl,tt,_,_,.int r.2.1,rfl,rfl,SqT.of gt,bZ (by decide) rfl,?_⟩
    refine Hi (hd.same k9.same) (by rw[length_map]; omega) rfl fun pc H10 S10 hpc g10=>?_
    refine⟨pc,_,rfl,.inl (SqL.of g10),rfl,wW _,_,rfl,?_⟩
    rw[if_neg (by decide),AU]
    have gp10:=S10 _ _ gp9
    by_cases hin:r.2.1∈q.B.es.map (·.1)
    ·rw[decide_eq_true hin]
     obtain⟨e,el⟩:=eO hin
     have es':s=gT q.B.es r.2.1:=by
      unfold gT
      rw[el]
      exact(p1.uni _ rin hput).2 e el
     obtain⟨i10,inc10,me⟩:=i8.put hin es'
     refine aX (AT (rS sz (by omega) ek hs) rfl ⟨_,rfl,_,rfl,tt,_,_,.int r.2.1,rfl,rfl,SqT.of (S10 _ _ gt),bZ (by decide) rfl,pw,_,rfl,rP.k (k:=Sum.inl r.2.1) gp10 ?_,?_⟩)
     ·have h1:(wsK ws').length=(ws'.map (·.1)).length:=by unfold wsK; rw[length_map,length_map]
      have h2:=i8.len nk
      rw[h1]
      exact Nat.lt_of_le_of_lt (show _<=30 by omega) (by decide)
     ·rw[B0]
      refine hD2 _ _ ⟨_,_,(bt9.trans (aG.buts S10)).upd rfl _,aC,i10,fun x hx=>inc10 x (inc x hx),fun r' hr' e1 e2=>?_,rfl⟩
      rw[tk,mem_append,mem_singleton]at hr'
      rcases hr' with hr' | rfl
      ·exact inc10 _ (dn8 r' hr' e1 e2)
      ·exact me
    ·rw[decide_eq_false hin]
     refine bE (hD2 _ _ ⟨ws',_,bt9.trans (aG.buts S10),gp10,i8,inc,fun r' hr' e1 e2=>?_,rfl⟩)
     rw[tk,mem_append,mem_singleton]at hr'
     rcases hr' with hr' | rfl
     ·exact dn8 r' hr' e1 e2
     ·exact absurd e2 hin
   ·rw[fV hput]
    refine bE (hD2 _ _ ⟨ws',_,bt9,gp9,i8,inc,fun r' hr' e1 e2=>?_,rfl⟩)
    rw[tk,mem_append,mem_singleton]at hr'
    rcases hr' with hr' | rfl
    ·exact dn8 r' hr' e1 e2
    ·exact absurd e1 hput
  rintro σ H8 ⟨ws',w9',bt8,gp8,i8,inc,dn8,rfl⟩
  refine hD1 _ _ ⟨ws',_,_,bt6.trans ((aG.buts S7).trans bt8),gp8,i8,fun p hp hm e1 e2=>?_,rfl⟩
  rw[take_succ,es,mem_append]at hm
  rcases hm with hm | hm
  ·exact inc _ (done p hp hm e1 e2)
  ·have hm:p.1∈[s]:=hm
   rw[ln,take_length]at dn8
   refine dn8 p.2 ?_ e1 e2
   unfold gE
   exact mem_map.mpr ⟨p,mem_filter.mpr ⟨hp,decide_eq_true (mem_singleton.mp hm)⟩,rfl⟩
 rintro σ H5 ⟨ws,w8,w9,bt,gp,i1,done,rfl⟩
 rw[length_map,length_map,take_length]at done
 have all:∀ x,x∈q.B.es.map (·.1)->x∈ws.map (·.1):=fun x hx=>by
  obtain⟨e,el⟩:=eO hx
  have hp:=p1.put x e el
  have h1:=p1.fst _ hp
  have h2:=hl.top _ hp
  exact done _ hp (perm.mem_iff.mpr (jS.mpr ⟨h1,by rw[<- ek]; exact h2⟩)) rfl hx
 refine go H5 ws _ _ (k2.buts bt off nt2) gp ((List.perm_ext_iff_of_nodup i1.nd nk).mpr fun x=>⟨fun hx=>?_,all x⟩) fun x hx=>?_
 ·obtain⟨p,hp,e⟩:=mem_map.mp hx
  rw[<- e]
  exact(i1.own p hp).1
 ·obtain⟨s,es⟩:=wH (all x hx)
  rw[es]
  exact congrArg some (i1.own _ (DN es)).2
end
theorem xL:∀ (a b:List (Int × Rw)) (f:Int->Option Int),whF f (a++b)=whF (whF f a) b
 | [],b,f=>rfl
 | p::a,b,f=>by
  show whF _ (a++b)=whF (whF _ a) b
  exact xL a b _
noncomputable def nA (R:List (Int × Rw)):List Rw:=(R.filter fun p=>decide (p.2.1=("carried" : Str))).map (·.2)
theorem u5 (a b:List (Int × Rw)):nA (a++b)=nA a++nA b:=by
 unfold nA
 rw[filter_append,map_append]
noncomputable def nJ (lg:List (Int × Rw)) (s:Int):List (Int × Rw):=lg.filter fun p=>decide (p.1=s)
noncomputable def oO (lg:List (Int × Rw)) (f:Int) (j:Nat):List (Int × Rw):=((List.range j).map fun(i:Nat)=>nJ lg (f+(i:Int))).flatten
theorem C0 (lg:List (Int × Rw)) (f:Int) (j:Nat):oO lg f (j+1)=oO lg f j++nJ lg (f+(j:Int)):=by
 unfold oO
 rw[range_succ,map_append,List.flatten_append]
 show _++[nJ lg (f+(j:Int))].flatten=_
 rw[flatten_cons,List.flatten_nil,append_nil]
theorem zV:∀ (k:Nat) (f:Int) (lg:List (Int × Rw)),lg.Pairwise (fun a b=>a.1<=b.1)->(∀ p∈lg,p.1<f+(k:Int))->oO lg f k=lg.filter fun p=>decide (f<=p.1)
 | 0,f,lg,_,ht=>by
  rw[List.filter_eq_nil_iff.mpr fun p hp=>by have:=ht p hp; simp; omega]
  rfl
 | k+1,f,lg,hs,ht=>by
  have e:oO lg f (k+1)=nJ lg f++oO lg (f+1) k:=by
   unfold oO
   rw[range_succ_eq_map,map_cons,flatten_cons,map_map]
   show nJ lg (f+((0:Nat):Int))++_=_
   rw[show f+((0:Nat):Int)=f by omega]
   congr 2
   apply map_congr_left
   intro i _
   show nJ lg (f+((i+1:Nat):Int))=_
   rw[show f+((i+1:Nat):Int)=f+1+(i:Int) by omega]
  rw[e,zV k (f+1) lg hs (fun p hp=>by have:=ht p hp; omega)]
  unfold nJ
  clear e ht
  induction lg with
  | nil=>rfl
  | cons p r ih=>
   rw[List.pairwise_cons]at hs
   have ih:=ih hs.2
   by_cases h1:p.1=f
   ·rw[filter_cons_of_pos (by simp [h1]),filter_cons_of_neg (by simp; omega),filter_cons_of_pos (by simp; omega),List.cons_append,ih]
   ·by_cases h2:f<=p.1
    ·have h3:∀ x∈r,f+1<=x.1:=fun x hx=>by
      have:=hs.1 x hx
      omega
     have e0:(r.filter fun x=>decide (x.1=f))=[]:=List.filter_eq_nil_iff.mpr fun x hx=>by have:=h3 x hx; simp; omega
     rw[e0,nil_append]at ih
     rw[filter_cons_of_neg (by simp [h1]),filter_cons_of_pos (by simp; omega),filter_cons_of_pos (by simp; omega),e0,nil_append,ih]
    ·rw[filter_cons_of_neg (by simp [h1]),filter_cons_of_neg (by simp; omega),filter_cons_of_neg (by simp; omega),ih]
theorem D5 {s:Int} (h:cZ s) {σ : St} {i:Nat} (e:σ[i]? = some (some (.int s))) (H1:Hp) (Q:VK) (q:Q (.str (aQ s)) H1):tOp (fun x y H Q=>∃ i j,x=V.str i/\y=V.str j/\i.length+j.length<=sizeLine/\Q (V.str (i++j)) H) (tC (V.str "s")) (tCB EM (cI (cR i) eQ)) σ H1 Q:=by
 refine⟨_,e,s,rfl,h.1,Int.lt_of_lt_of_le h.2 (by decide),_,_,rfl,rfl,?_,q⟩
 have:=(oZ h).2
 show 1+(Str.ofString (toString s)).length<=sizeLine
 exact le_trans (show _<=100 by omega) (by decide)
section
variable {A:Ad} {H H1:Hp} {L0 D0:Addr} {L:Pl} {q:Qs} {n:Nat} {lg:List (Int × Rw)} {K:PySem.W.Frag} {c1 c2 c3 c4:Addr}
theorem walk2 {pw pr:Addr} {ws0:List (Int × Int)} {z0 z1 z4 z5 z6 z8 z9 z10 z11 z12 z13 z15:Option V} {bb:TS} {D:Ends} (k:Kc A H L0 D0 H1 L q) (cq:Cq q lg n) (hn:n<=480)
  (gw:H1 pw=some (.dK (wsK ws0))) (ow:Off H L pw) (gr:H1 pr=some (.lst [])) (owr:Off H L pr) (hk:List.Perm (ws0.map (·.1)) (q.B.es.map (·.1)))
  (go:∀ H2 ws vs z5 z9,Kc A H L0 D0 H2 L q->kH (fun b=>b=pw\/b=pr) H1 H2->H2 pw=some (.dK (wsK ws))->ws.map (·.1)=ws0.map (·.1)->(∀ x,fE ws x=whF (fE ws0) (lg.filter fun p=>decide (q.first<=p.1)) x)->
   H2 pr=some (.lst vs)->aV H2 ((nA (lg.filter fun p=>decide (q.first<=p.1))).map cA) vs->bb D [z0,z1,some (.ref D0),some (.ref L0),z4,z5,z6,some (.ref pw),z8,z9,z10,z11,z12,z13,some (.ref pr),z15] H2) :
  hW (Ay (kC K (tCB tN (cI (nZ ["_law_name"] [] (kC K (tMe A.disk "names" (fA A.disk) E0 (cR 2) eQ)) (cO 0) qV (tCB zX (cI (tSl ES (cR 0) (zM (tC (V.int 1))) mM) eQ))) eQ))) (cO 5)
   (Ay (kC K (tOp (qF K) (tFn (d8 c1 c2) E0 (cI (tMe A.disk "read" (iW A.disk c3 c4) E0 (cR 2) (cI (tOp (fun x y H Q=>∃ i j,x=V.str i/\y=V.str j/\i.length+j.length<=sizeLine/\Q (V.str (i++j)) H) (tC (V.str "s")) (tCB EM (cI (cR 5) eQ))) eQ)) eQ)) (tC (V.int 0)))) (cO 9)
    (Dz (sH (tOp rEq (tOp (qF K) (cR 9) (tC (V.int 0))) (tC (V.str "carried"))))
     (hW (EG (cR 7) (tOp (qF K) (cR 9) (tC (V.int 1))) (cR 5)) (Go (tBM K "list" CG (cR 14) (cI (cR 9) eQ)))) B7))) bb D
   [z0,z1,some (.ref D0),some (.ref L0),z4,z5,z6,some (.ref pw),z8,z9,z10,z11,z12,z13,some (.ref pr),z15] H1:=by
 have sz:=cq.sz
 obtain⟨kk,ek,_⟩:=sz.keys
 have f0:=sz.f0
 have top:=sz.top
 have hl:=cq.log
 have cnt:=cq.cnt
 have npr:pr≠pw:=fun z=>by rw[z,gw]at gr; cases gr
 refine CZ k sz (by omega) ek rfl fun pn H2 S2 hpn g2=>?_
 have k2:=k.sames S2
 have gw2:=S2 _ _ gw
 have gr2:=S2 _ _ gr
 have nS:∀ {c:Addr},H1 c=none->¬ (c=pw\/c=pr):=fun {c} h z=>by
  rcases z with z | z
  ·rw[z,gw]at h; cases h
  ·rw[z,gr]at h; cases h
 have nt2:∀ b,b=pw\/b=pr->∀ xs,H2 b≠some (.tup xs):=fun b e xs z=>by
  rcases e with e | e
  ·rw[e,gw2]at z; cases z
  ·rw[e,gr2]at z; cases z
 have off:∀ b,b=pw\/b=pr->Off H L b:=fun b e=>by
  rcases e with e | e
  ·rw[e]; exact ow
  ·rw[e]; exact owr
 refine⟨pn,rfl,⟨_,SqL.of g2⟩,?_⟩
 refine hG (bT (K:=K) (H:=upd (fun _=>none) pn (.lst ((eV q.first kk).map V.int))) (SqL.of aC)) (fun j σ H'=>∃ ws vs z5 z9,kH (fun b=>b=pw\/b=pr) H2 H'/\H' pw=some (.dK (wsK ws))/\ws.map (·.1)=ws0.map (·.1)/\(∀ x,fE ws x=whF (fE ws0) (oO lg q.first j) x)/\H' pr=some (.lst vs)/\aV H' ((nA (oO lg q.first j)).map cA) vs/\vs.length<=100 * j/\
  σ = [z0,z1,some (.ref D0),some (.ref L0),z4,z5,z6,some (.ref pw),z8,z9,z10,z11,z12,z13,some (.ref pr),z15]) ⟨ws0,[],_,_,aG.buts (aG.refl _),gw2,rfl,(fun _=>rfl),gr2,(by simp only[oO,nA,List.range_zero,map_nil,List.flatten_nil,List.filter_nil,aV]),zero_le _,rfl⟩ (fun j σ H' hh c o e=>?_) ?_ ?_
 ·obtain⟨_,_,_,_,bt,_⟩:=hh
  by_cases y:c=pn
  ·subst y
   rw[aC]at e
   injection e with e
   rw[<- e]
   exact bt _ _ g2 (nS hpn)
  ·rw[aF y]at e
   cases e
 ·rintro D1 j x σ H5 H6 hD1 - hj ⟨ws,vs,w5,w9,bt,gp,wk,wl,gv,dv,lv,rfl⟩ s6 hx
  rw[length_map,iD]at hj
  have hx:((eV q.first kk).map V.int)[j]? = some x:=hx
  have es:(eV q.first kk)[j]? = some (q.first+(j:Int)):=by
   unfold eV
   rw[getElem?_map,List.getElem?_range hj]
   rfl
  rw[getElem?_map,es]at hx
  cases hx
  have hs:q.first+(j:Int)∈eV q.first kk:=mem_of_getElem? es
  obtain⟨s,hseq⟩:∃ s,s=q.first+(j:Int):=⟨_,rfl⟩
  rw[<- hseq]at hs ⊢
  have nk:=rS sz (by omega) ek hs
  have bt6:kH (fun b=>b=pw\/b=pr) H2 H6:=bt.trans (aG.buts s6)
  have k6:=k2.buts bt6 off nt2
  refine CW k6 sz (by omega) hl ek hs rfl (fun H Q h=>D5 nk rfl H Q h) fun l xs H7 S7 hl0 g7 d7=>?_
  have k7:=k6.sames S7
  have gp7:=S7 _ _ (s6 _ _ gp)
  have gv7:=S7 _ _ (s6 _ _ gv)
  have nlp:¬ (l=pw\/l=pr):=fun z=>by
   rcases z with z | z
   ·rw[z,s6 _ _ gp]at hl0; cases hl0
   ·rw[z,s6 _ _ gv]at hl0; cases hl0
  have nt7:∀ b,b=pw\/b=pr->∀ xs,H7 b≠some (.tup xs):=fun b e xs z=>by
   rcases e with e | e
   ·rw[e,gp7]at z; cases z
   ·rw[e,gv7]at z; cases z
  have ln:=d7.length
  rw[length_map]at ln
  have lnP:(nJ lg s).length=xs.length:=by
   rw[ln]
   unfold gE nJ
   rw[length_map]
  have l99:xs.length<=100:=by
   have h1:=nP (gE lg s)
   have hm:=jS.mp hs
   have h2:=sz.len _ _ (hl.file s hm.1 (by omega))
   have:=sz.m67
   omega
  refine⟨l,rfl,⟨_,SqL.of g7⟩,?_⟩
  refine hG (bT (K:=K) (H:=upd (fun _=>none) l (.lst xs)) (SqL.of aC)) (fun t σ H'=>∃ ws vs w9,kH (fun b=>b=pw\/b=pr) H7 H'/\H' pw=some (.dK (wsK ws))/\ws.map (·.1)=ws0.map (·.1)/\(∀ x,fE ws x=whF (fE ws0) (oO lg q.first j++(nJ lg s).take t) x)/\H' pr=some (.lst vs)/\aV H' ((nA (oO lg q.first j++(nJ lg s).take t)).map cA) vs/\vs.length<=100 * j+t/\
   σ = [z0,z1,some (.ref D0),some (.ref L0),z4,some (.int s),z6,some (.ref pw),z8,w9,z10,z11,z12,z13,some (.ref pr),z15]) ⟨ws,vs,_,aG.buts (aG.refl _),gp7,wk,(by rw[List.take_zero,append_nil]; exact wl),gv7,(by rw[List.take_zero,append_nil]; exact dv.same (s6.trans S7)),lv,rfl⟩ (fun t σ H' hh c o e=>?_) ?_ ?_
  ·obtain⟨_,_,_,bt,_⟩:=hh
   by_cases y:c=l
   ·subst y
    rw[aC]at e
    injection e with e
    rw[<- e]
    exact bt _ _ g7 nlp
   ·rw[aF y]at e
    cases e
  ·clear wl dv gv gp lv wk gp7 gv7
   rintro D2 t x σ H8 H9 hD2 - ht ⟨ws,vs,w9',bt8,gp8,wk,wl,gv8,dv8,lv,rfl⟩ s9 hx
   have hx:xs[t]? = some x:=hx
   have ht:t<xs.length:=ht
   have bt9:kH (fun b=>b=pw\/b=pr) H7 H9:=bt8.trans (aG.buts s9)
   have k9:=k7.buts bt9 off nt7
   have d9:=iR (bt9.tup nt7) (oP _) d7
   obtain⟨dd,hdd,dr⟩:=d9.get hx
   rw[getElem?_map]at hdd
   obtain⟨p,ep⟩:∃ p,(nJ lg s)[t]? = some p:=⟨_,getElem?_eq_getElem (by omega)⟩
   have er:(gE lg s)[t]? = some p.2:=by
    show ((nJ lg s).map (·.2))[t]? = _
    rw[getElem?_map,ep]
    rfl
   rw[er]at hdd
   cases hdd
   obtain⟨tt,bb',rfl,gt,gb⟩:=tL dr
   obtain⟨pin,ps⟩:=mem_filter.mp (mem_of_getElem? ep)
   have ps:p.1=s:=of_decide_eq_true ps
   have tk:oO lg q.first j++(nJ lg s).take (t+1)=oO lg q.first j++(nJ lg s).take t++[p]:=by rw[take_succ,ep,append_assoc]; rfl
   have gp9:=s9 _ _ gp8
   have gv9:=s9 _ _ gv8
   refine⟨_,rfl,tt,_,_,.str p.2.1,rfl,rfl,SqT.of gt,bZ (by decide) rfl,rfl,_,rfl,?_⟩
   by_cases hc:p.2.1 = "carried"
   ·rw[fW hc]
    have hin:p.2.2.1∈ws.map (·.1):=by
     obtain⟨e,el,_⟩:=cq.wc.c2 p.2.2.1 p pin ⟨hc,rfl⟩
     rw[wk]
     exact hk.mem_iff.mpr (o0 el)
    have hlen:ws.length<=30:=by
     have h1:=congrArg List.length wk
     have h2:=hk.length_eq
     rw[length_map,length_map]at h1 h2
     omega
    refine aX ⟨_,rfl,_,rfl,_,rfl,tt,_,_,.int p.2.2.1,rfl,rfl,SqT.of gt,bZ (by decide) rfl,pw,_,rfl,rP.k (k:=Sum.inl p.2.2.1) gp9 (by unfold wsK; rw[length_map]; exact Nat.lt_of_le_of_lt hlen (by decide)),?_⟩
    rw[B0]
    have v10:upd H9 pw (.dK (wsK (jW ws p.2.2.1 s))) pr=some (.lst vs):=by rw[aF npr]; exact gv9
    have w10:upd H9 pw (.dK (wsK (jW ws p.2.2.1 s))) pw=some (.dK (wsK (jW ws p.2.2.1 s))):=aC
    have b10:=bt9.upd (a:=pw) (.inl rfl) (.dK (wsK (jW ws p.2.2.1 s)))
    have T10:gA H9 (upd H9 pw (.dK (wsK (jW ws p.2.2.1 s)))):=iV gp9 (fun xs z=>by cases z)
    generalize upd H9 pw (.dK (wsK (jW ws p.2.2.1 s)))=H10 at v10 w10 b10 T10 ⊢
    refine⟨_,rfl,.inl ⟨rfl,_,SqL.of v10⟩,_,rfl,pr,vs,.ref tt,rfl,rfl,v10,Nat.lt_of_le_of_lt (show _<=100 * 600+100 by omega) (by decide),?_⟩
    have T11:gA H10 (upd H10 pr (.lst (vs++[.ref tt]))):=iV v10 (fun xs z=>by cases z)
    have w11:upd H10 pr (.lst (vs++[.ref tt])) pw=some (.dK (wsK (jW ws p.2.2.1 s))):=by rw[aF (fun z=>npr z.symm)]; exact w10
    refine hD2 _ _ ⟨jW ws p.2.2.1 s,vs++[.ref tt],_,b10.upd (.inr rfl) _,w11,(wF s hin).trans wk,fun x=>?_,aC,?_,?_,rfl⟩
    ·rw[tk,xL,DM s x hin,wl x]
     show _=(if p.2.1=("carried" : Str) then fun k=>if k=p.2.2.1 then some p.1 else _ else _) x
     rw[if_pos hc,ps]
    ·rw[tk,u5]
     have e1:nA [p]=[p.2]:=by
      unfold nA
      rw[filter_cons_of_pos (by exact decide_eq_true hc)]
      rfl
     rw[e1,map_append]
     exact(iR (T10.trans T11) (oP _) (dv8.same s9)).app (uX (Ce (T10.trans T11) (mR _ _ _) dr))
    ·rw[length_append]
     show vs.length+1<=_
     omega
   ·rw[fV hc]
    have e1:nA [p]=[]:=by
     unfold nA
     rw[filter_cons_of_neg (by simp [hc])]
     rfl
    refine bE (hD2 _ _ ⟨ws,vs,_,bt9,gp9,wk,fun x=>?_,gv9,?_,by omega,rfl⟩)
    ·rw[tk,xL,wl x]
     show _=(if p.2.1=("carried" : Str) then fun k=>if k=p.2.2.1 then some p.1 else _ else _) x
     rw[if_neg hc]
    ·rw[tk,u5,e1,append_nil]
     exact dv8.same s9
  rintro σ H8 ⟨ws',vs',w9',bt8,gp8,wk8,wl8,gv8,dv8,lv8,rfl⟩
  rw[<- lnP,take_length,hseq,<- C0]at wl8 dv8
  refine hD1 _ _ ⟨ws',vs',_,_,bt6.trans ((aG.buts S7).trans bt8),gp8,wk8,wl8,gv8,dv8,by omega,rfl⟩
 rintro σ H5 ⟨ws,vs,w5,w9,bt,gp,wk,wl,gv,dv,lv,rfl⟩
 rw[length_map,iD,zV (kk+1) q.first lg hl.srt (fun p hp=>by have:=hl.top p hp; omega)]at wl dv
 exact go H5 ws vs _ _ (k2.buts bt off nt2) ((aG.buts S2).trans bt) gp wk wl gv dv
end
theorem P1.first {m d:Int} (m8:8<=m) (m67:m<=87) (b:Nat->Bool):∃ lg,P1 (AG m 99 9 d) lg 0 b 0 0:=by
 unfold AG
 have nc:∀ p∈[((0:Int),(("from",0,[]):Rw))],p.2.1≠("carried" : Str):=fun p hp=>by
  rw[mem_singleton.mp hp]
  show ("from" : Str) ≠ "carried"
  decide
 refine⟨[(0,("from",0,[]))],⟨⟨⟨rfl,Int.le_refl _,Int.le_refl _,⟨0,rfl,rfl⟩,fun x bs e=>?_,m8,m67⟩,⟨fun s h1 h2=>?_,fun p hp=>?_,fun p hp=>?_,pairwise_singleton _ _⟩,⟨(fun k e _ ⟨p,hp,hc⟩=>absurd hc.1 (nc p hp)),(fun k p hp hc=>absurd hc.1 (nc p hp))⟩,rfl,⟨Int.le_refl _,by show (0:Int)<=30; decide⟩,List.Pairwise.nil,(fun k e y=>by cases y),zero_le _⟩,rfl,rfl,rfl,(fun p hp=>by cases hp),rfl,(fun k e y=>by cases y),le_refl _,zero_le _,nc,(fun k e y=>by cases y),fun p hp z=>?_,fun p hp=>?_⟩⟩
 ·have e:aO [(aQ 0,uQ)] x=some bs:=e
  rw[AL]at e
  by_cases y:x=aQ 0
  ·rw[if_pos y]at e
   injection e with e
   rw[<- e]
   show ((uQ.length:Nat):Int)<=m+12
   have:uQ.length=7:=by decide +kernel
   omega
  ·rw[if_neg y]at e
   cases e
 ·have h1:(0:Int)<=s:=h1
  have h2:s<=(0:Int):=h2
  have:s=0:=by omega
  subst this
  show aO [(aQ 0,uQ)] (aQ 0)=_
  rw[AL,if_pos rfl]
  rfl
 ·rw[mem_singleton.mp hp]
  exact rY (by decide) (by decide)
 ·rw[mem_singleton.mp hp]
  exact Int.le_refl _
 ·rw[mem_singleton.mp hp]at z
  exact absurd (show ("from" : Str) = "put" from z) (by decide)
 ·rw[mem_singleton.mp hp]
  exact Int.le_refl _
theorem Cq.mono {q:Qs} {lg:List (Int × Rw)} {n m:Nat} (h:Cq q lg n) (hm:n<=m):Cq q lg m:=⟨⟨h.sz.left,h.sz.f0,Int.le_trans h.sz.top (by omega),h.sz.keys,h.sz.len,h.sz.m8,h.sz.m67⟩,h.log,h.wc,h.pt,h.up,h.so,h.ent,h.cnt⟩
noncomputable def eN (q:Qs):List Int:=(q.B.es.map (·.1)).filter fun k=>decide (gT q.B.es k=q.first)
section
variable {A:Ad} {H H1 H2:Hp} {L0 D0:Addr} {L L':Pl} {q q':Qs} {n:Nat} {lg:List (Int × Rw)} {Q:V->Hp->Prop} {E:XK} {K:PySem.W.Frag}
theorem FB {pw pn:Addr} {ws:List (Int × Int)} {fs:List Int} (cq:Cq q lg n) (gw:H1 pw=some (.dK (wsK ws))) (hk:List.Perm (ws.map (·.1)) (q.B.es.map (·.1))) (hw:∀ x,x∈q.B.es.map (·.1)->fE ws x=some (gT q.B.es x)) (gn:H1 pn=some (.lst ((q.first::fs).map V.int))) {σ : St} (e7:σ[7]? = some (some (.ref pw))) (e11:σ[11]? = some (some (.ref pn)))
  (go:∀ p H2,aG H1 H2->H1 p=none->H2 p=some (.lst ((eN q).map V.int))->Q (.ref p) H2) :
  nZ ["_law_number"] [("_law_where",7),("_law_numbers",11)] (kC K (tCB zW (cI (cR 7) eQ))) (cO 0) (sH (tOp rEq (Gp (cR 1) (cR 0)) (tOp (HF K) (cR 2) (tC (V.int 0))))) (cR 0) σ H1 Q:=by
 have cnt:=cq.cnt
 have hl:=hk.length_eq
 rw[length_map,length_map]at hl
 refine⟨_,e7,pw,wsK ws,ws.map (·.1),rfl,gw,Dr ws,by rw[length_map]; omega,fun p ms perm pw' hp=>?_⟩
 have em:ms=q.B.es.map (·.1):=eA (perm.trans hk) pw' (cq.so.imp Int.le_of_lt)
 subst em
 have S2:=aI (o:=.lst ((q.B.es.map (·.1)).map V.int)) hp
 have g2:upd H1 p (.lst ((q.B.es.map (·.1)).map V.int)) p=some (.lst ((q.B.es.map (·.1)).map V.int)):=aC
 generalize upd H1 p (.lst ((q.B.es.map (·.1)).map V.int))=H2 at S2 g2 ⊢
 obtain⟨ks,hks⟩:∃ ks,ks=q.B.es.map (·.1):=⟨_,rfl⟩
 have lk:ks.length<=30:=by rw[hks,length_map]; exact cnt
 unfold eN at go
 rw[<- hks]at g2 hw go
 refine⟨p,rfl,⟨_,SqL.of g2⟩,?_⟩
 refine mE (bT (K:=K) (SqL.of g2)) (by rw[length_map]; exact le_trans lk (by decide)) (fun j=>decide (gT q.B.es (ks.getD j 0)=q.first)) (fun j=>V.int (ks.getD j 0)) (fun σ=>∃ z,σ = [z,some (.ref pw),some (.ref pn)]) ?z0 ?_ ?_
 case z0=>
  refine⟨none,?_⟩
  show [none,(σ[7]?).join,(σ[11]?).join]=_
  rw[e7,e11]
  rfl
 ·intro j x σc H3 hj hσ s3 hx Q1 Q2 Q3 h2' h3'
  obtain⟨zz,rfl⟩:=hσ
  rw[getElem?_map]at hx
  cases ej:ks[j]? with
  | none=>rw[ej]at hx; cases hx
  | some y=>
   rw[ej]at hx
   cases hx
   have eg:ks.getD j 0=y:=by rw[getD_eq_getElem?_getD,ej]; rfl
   rw[eg]at h2' h3'
   have dg:fN H3 pw (.int y) (dS (wsK ws) (Sum.inl y)):=fN.k (k:=Sum.inl y) (s3 _ _ (S2 _ _ gw))
   rw[Bz,hw y (mem_of_getElem? ej)]at dg
   refine⟨_,rfl,_,rfl,pw,_,rfl,dg,_,rfl,pn,_,_,.int q.first,rfl,rfl,SqL.of (s3 _ _ (S2 _ _ gn)),bZ (by decide) rfl,rfl,_,rfl,?_⟩
   by_cases hs:gT q.B.es y=q.first
   ·rw[decide_eq_true (show V.int (gT q.B.es y)=V.int q.first by rw[hs])]
    exact aX ⟨_,rfl,h2' _ ⟨_,rfl⟩ (decide_eq_true hs)⟩
   ·rw[mY hs]
    exact bE (h3' _ ⟨_,rfl⟩ (decide_eq_false hs))
 intro D2 H3 hD S3 g3
 rw[length_map,uS ks (fun k=>decide (gT q.B.es k=q.first))]at g3
 exact go D2 H3 (S2.trans S3) (S2.free hD) g3
theorem Cp (k:Kc A H L0 D0 H1 L q) (cq:Cq q lg n) (hn:n<=400) (one:q.first=q.last->Q .non H1)
  (go:q.first≠q.last->∀ L' q' H2,Step L L' H1 H2->QueueW A H2 L' (fX q') false->Ci q lg n (eN q) (eN q).length q'->Q (.int ((eN q).length:Int)) H2):iK A [.ref L0] H1 Q E:=by
 have cnt:=cq.cnt
 have hlen:(eN q).length<=30:=by
  have:=length_filter_le (fun k=>decide (gT q.B.es k=q.first)) (q.B.es.map (·.1))
  rw[length_map]at this
  unfold eN
  omega
 obtain⟨kk,ek,_⟩:=cq.sz.keys
 refine⟨L,q,Ci q lg n (eN q),eN q,by rw[k.qu],k.qw,by omega,one,fun ne=>⟨fun ms perm pw=>?_,Ci.zero cq _,fun i x q' hi ci=>?_,fun q' ci=>?_⟩⟩
 ·have em:ms=q.B.es.map (·.1):=eA perm pw (cq.so.imp Int.le_of_lt)
  rw[em]
  rfl
 ·obtain⟨hi',_⟩:=List.getElem?_eq_some_iff.mp hi
  obtain⟨e,el⟩:=eO (mem_filter.mp (mem_of_getElem? hi)).1
  exact ci.succ (by omega) hi (cq.so.sublist List.filter_sublist) el
 ·obtain⟨Δ,cq',_,_⟩:=ci.run
  have h1:=ci.first
  have h2:=ci.last
  obtain⟨a,b,c,_⟩:=cq'.drop (by omega) (by omega)
  exact⟨a,b,c,fun L' H2 st hq=>go ne L' q' H2 st hq ci⟩
theorem Ci.fin (cq:Cq q lg n) (hn:n<=400) (ne:q.first≠q.last) (sg:∀ k e,aM q.B.es k=some e->q.first<=e.2.2) (ci:Ci q lg n (eN q) (eN q).length q'):∃ lg',Cq (fX q') lg' (n+30)/\(fX q').B.es.map (·.1)=q.B.es.map (·.1)/\(∀ k,fR (fX q').B.es k=fR q.B.es k)/\(∀ k e,aM (fX q').B.es k=some e->(fX q').first<=e.2.2)/\
  (∃ R,nA (lg'.filter fun p=>decide ((fX q').first<=p.1))=R++(eN q).map fun k=>dZ k ((aM q.B.es k).getD ([],0,0)))/\
  (∀ f:Int->Option Int,(∀ x,x∈q.B.es.map (·.1)->f x=some (gT q.B.es x))->∀ x,x∈q.B.es.map (·.1)->whF f (lg'.filter fun p=>decide ((fX q').first<=p.1)) x=some (gT (fX q').B.es x))/\(fX q').first=q.first+1:=by
 obtain⟨Δ,cq',dl,dc⟩:=ci.run
 have h1:=ci.first
 have h2:=ci.last
 obtain⟨kk,ek,_⟩:=cq.sz.keys
 have cnt:=cq.cnt
 have hlen:(eN q).length<=30:=by
  have:=length_filter_le (fun k=>decide (gT q.B.es k=q.first)) (q.B.es.map (·.1))
  rw[length_map]at this
  unfold eN
  omega
 rw[take_length]at dc
 obtain⟨_,_,_,cqd⟩:=cq'.drop (by omega) (by omega)
 have ef:(fX q').first=q.first+1:=by show q'.first+1=_; rw[h1]
 have same:∀ k e,aM q.B.es k=some e->∃ l,aM q'.B.es k=some (e.1,e.2.1,l)/\(k∈eN q->q.last<=l)/\(k ∉ eN q->l=e.2.2):=fun k e el=>by
  obtain⟨l,a,b,c⟩:=ci.same k e el
  rw[take_length]at b c
  exact⟨l,a,b,c⟩
 have back:∀ k e',aM q'.B.es k=some e'->∃ e,aM q.B.es k=some e/\e'=(e.1,e.2.1,e'.2.2)/\(k∈eN q->q.last<=e'.2.2)/\(k ∉ eN q->e'.2.2=e.2.2):=fun k e' el'=>by
  have hin:=o0 el'
  rw[ci.keys]at hin
  obtain⟨e,el⟩:=eO hin
  obtain⟨l,a,b,c⟩:=same k e el
  rw[el']at a
  cases a
  exact⟨e,el,rfl,b,c⟩
 have mem:∀ k e,aM q.B.es k=some e->(k∈eN q ↔ e.2.2=q.first):=fun k e el=>by
  unfold eN
  rw[mem_filter,decide_eq_true_eq]
  unfold gT
  rw[el]
  exact⟨fun h=>h.2,fun h=>⟨o0 el,h⟩⟩
 have seg2:∀ k e,aM q'.B.es k=some e->q.first+1<=e.2.2:=fun k e' el'=>by
  obtain⟨e,el,_,a,b⟩:=back k e' el'
  by_cases hm:k∈eN q
  ·have:=a hm
   omega
  ·have h3:=b hm
   have h4:=sg k e el
   have h5:e.2.2≠q.first:=fun z=>hm ((mem k e el).mpr z)
   omega
 refine⟨lg ++ Δ,cqd.mono (by omega),ci.keys,fun k=>?_,fun k e' el'=>by rw[ef]; exact seg2 k e' el',⟨nA (lg.filter fun p=>decide ((fX q').first<=p.1)),?_⟩,fun f hf x hx=>?_,ef⟩
 ·show fR q'.B.es k=_
  unfold fR
  cases el:aM q.B.es k with
  | none=>
   have:aM q'.B.es k=none:=by
    cases el':aM q'.B.es k with
    | none=>rfl
    | some e'=>
     obtain⟨e,h,_⟩:=back k e' el'
     rw[el]at h
     cases h
   rw[this]
  | some e=>
   obtain⟨l,a,_⟩:=same k e el
   rw[a]
   rfl
 ·rw[filter_append,u5]
  congr 1
  have e1:(Δ.filter fun p=>decide ((fX q').first<=p.1)) = Δ:=List.filter_eq_self.mpr fun p hp=>decide_eq_true (by have:=dl p hp; rw[ef]; omega)
  rw[e1]
  exact dc
 ·obtain⟨e,el⟩:=eO hx
  obtain⟨l,a,_,c⟩:=same x e el
  have:=Dt (f:=f) (first:=(fX q').first) cqd.wc cqd.log.srt (fun k e' el' no=>?_) (fun k e' el'=>by rw[ef]; exact seg2 k e' el') (k:=x) (e:=(e.1,e.2.1,l)) a
  ·rw[this]
   congr 1
   unfold gT
   show l=((aM q'.B.es x).getD ([],0,0)).2.2
   rw[a]
   rfl
  ·have el':aM q'.B.es k=some e':=el'
   obtain⟨e0,el0,_,_,b0⟩:=back k e' el'
   have hm:k ∉ eN q:=fun hm=>by
    have hc:dZ k ((aM q.B.es k).getD ([],0,0))∈nA Δ:=by
     show _∈(Δ.filter _).map _
     rw[dc]
     exact mem_map.mpr ⟨k,hm,rfl⟩
    unfold nA at hc
    obtain⟨p,hp,ep⟩:=mem_map.mp hc
    have hp:=(mem_filter.mp hp).1
    exact no p (mem_append_right _ hp) (by show p.2.1=_/\p.2.2.1=k; rw[ep]; exact⟨rfl,rfl⟩)
   rw[hf k (o0 el0),b0 hm]
   unfold gT
   rw[el0]
   rfl
theorem E7 (x:Str) (xs:List Str) (h:x ∉ xs):inV (.str x) (xs.map V.str)=false:=by
 unfold inV
 rw[List.any_map,List.any_eq_false]
 intro y hy z
 have z:decide (y=x)=true:=z
 exact h (by rw[<- of_decide_eq_true z]; exact hy)
end
section
variable {H1:Hp} {Q:V->Hp->Prop} {K:PySem.W.Frag}
theorem GV {pd pm:Addr} {es:List (Int × Ent)} {ks ns:List Int} (hd:Den H1 (.list (ks.map (fR es))) (.ref pd)) (hl:ks.length<=1000) (gm:H1 pm=some (.lst (ns.map V.int))) (hns:(ks.filter fun k=>decide (k∈ns))=ns) {σ : St} (e6:σ[6]? = some (some (.ref pd))) (e12:σ[12]? = some (some (.ref pm)))
  (go:∀ p xs H2,aG H1 H2->H1 p=none->H2 p=some (.lst xs)->aV H2 (ns.map (fR es)) xs->Q (.ref p) H2) :
  nZ ["_law_letter"] [("_law_moved",12)] (kC K (cR 6)) (cO 0) (sH (tOp (rIn K false) (tOp (qF K) (cR 0) (tC (V.int 0))) (cR 1))) (cR 0) σ H1 Q:=by
 simp only[Den]at hd
 obtain⟨_,xs,e1,gx,dds⟩:=hd
 cases e1
 have lds:=dds.length
 rw[length_map]at lds
 refine⟨_,e6,pd,rfl,⟨_,SqL.of gx⟩,?_⟩
 refine mE (bT (K:=K) (SqL.of gx)) (le_trans (show _<=1000 by omega) (by decide)) (fun j=>decide (ks.getD j 0∈ns)) (fun j=>xs.getD j .non) (fun σ=>∃ z,σ = [z,some (.ref pm)]) ?z0 ?_ ?_
 case z0=>
  refine⟨none,?_⟩
  show [none,(σ[12]?).join]=_
  rw[e12]
  rfl
 ·intro j x σc H3 hj hσ s3 hx Q1 Q2 Q3 h2' h3'
  obtain⟨zz,rfl⟩:=hσ
  obtain⟨dd,hdd,dn⟩:=dds.get hx
  rw[getElem?_map]at hdd
  cases ej:ks[j]? with
  | none=>rw[ej]at hdd; cases hdd
  | some y=>
   rw[ej]at hdd
   cases hdd
   obtain⟨t,b',et,g,_⟩:=kB (dn.same s3)
   have eg:xs.getD j .non=x:=by rw[getD_eq_getElem?_getD,hx]; rfl
   have em:ks.getD j 0=y:=by rw[getD_eq_getElem?_getD,ej]; rfl
   rw[eg,em]at h2'
   rw[em]at h3'
   subst et
   refine⟨_,rfl,t,_,_,.int y,rfl,rfl,SqT.of g,bZ (by decide) rfl,_,rfl,pm,_,rfl,.inl (SqL.of (s3 _ _ gm)),rfl,wW _,_,rfl,?_⟩
   rw[if_neg (by decide),AU]
   by_cases hin:y∈ns
   ·rw[decide_eq_true hin]
    exact aX ⟨_,rfl,h2' _ ⟨_,rfl⟩ (decide_eq_true hin)⟩
   ·rw[decide_eq_false hin]
    exact bE (h3' _ ⟨_,rfl⟩ (decide_eq_false hin))
 intro D2 H3 hD S3 g3
 have df:=(uY (p:=fun k=>decide (k∈ns)) dds).same S3
 rw[hns]at df
 exact go D2 _ H3 S3 hD g3 df
theorem FC {pq:Addr} {es:List (Int × Ent)} {ns:List Int} {xs:List V} (gx:H1 pq=some (.lst xs)) (dds:aV H1 (ns.map (fR es)) xs) (hl:ns.length<=1000) (hb:∀ k∈ns,((aM es k).getD ([],0,0)).2.1<=9/\((aM es k).getD ([],0,0)).1.length<=60) {σ : St} (e15:σ[15]? = some (some (.ref pq)))
  (go:∀ p H2,aG H1 H2->H1 p=none->Den H2 (.list ((ns.map fun k=>dZ k ((aM es k).getD ([],0,0))).map cA)) (.ref p)->Q (.ref p) H2) :
  nZ ["_law_number","_law_body","_law_times"] [] (kC K (cR 15)) (Hj K 3 (Ca (cO 0) (Ca (cO 1) (Ca (cO 2) gNil)))) qV
   (G6 (cI (tC (V.str "carried")) (cI (cR 0) (cI (tOp Gu (G6 (cI (cR 2) eQ)) (cR 1)) eQ)))) σ H1 Q:=by
 have lds:=dds.length
 rw[length_map]at lds
 refine⟨_,e15,pq,rfl,⟨_,SqL.of gx⟩,?_⟩
 refine fF (bT (K:=K) (SqL.of gx)) (le_trans (show _<=1000 by omega) (by decide)) (fun j y H'=>∃ k,ns[j]? = some k/\Den H' (cA (dZ k ((aM es k).getD ([],0,0)))) y) (fun i y H1 H2 s h=>by obtain⟨n,e,h⟩:=h; exact⟨n,e,h.n s (mR _ _ _)⟩) (fun σ=>∃ z0 z1 z2,σ = [z0,z1,z2]) ?c0 ?_ ?_
 case c0=>exact⟨none,none,none,rfl⟩
 ·intro j x σc H3 hj hσ s3 hx Q' hQ'
  obtain⟨z0,z1,z2,rfl⟩:=hσ
  obtain⟨dd,hd,dn⟩:=dds.get hx
  rw[getElem?_map]at hd
  cases el:ns[j]? with
  | none=>
   rw[el]at hd
   cases hd
  | some y=>
   rw[el]at hd
   cases hd
   obtain⟨t9,l5⟩:=hb y (mem_of_getElem? el)
   have dn:=dn.same s3
   unfold fR at dn
   obtain⟨e,ee⟩:∃ e,e=(aM es y).getD ([],0,0):=⟨_,rfl⟩
   rw[<- ee]at dn t9 l5
   obtain⟨t,b',et,g,gb⟩:=kB dn
   subst et
   refine⟨t,_,rfl,SqT.of g,rfl,_,_,rfl,_,_,rfl,_,_,rfl,rfl,_,rfl,_,rfl,bY,fun p0 hp0=>?_⟩
   have V0:=aI (o:=.tup [.int e.2.1]) hp0
   have v0:upd H3 p0 (.tup [.int e.2.1]) p0=some (.tup [.int e.2.1]):=aC
   generalize upd H3 p0 (.tup [.int e.2.1])=H4 at V0 v0 ⊢
   refine⟨_,rfl,p0,b',_,_,rfl,rfl,v0,V0 _ _ gb,?_,fun p9 H5 S5 g5=>⟨bY,fun p1 hp1=>?_⟩⟩
   ·rw[length_map]
    exact le_trans (show 1+e.1.length<=61 by omega) (by decide)
   refine hQ' _ _ _ ⟨_,_,_,rfl⟩ (V0.trans (S5.trans (aI hp1))) ⟨y,el,?_⟩
   rw[<- ee,mG t9]
   unfold cA f9
   simp only[Den,aV]
   refine⟨p1,_,rfl,aC,_,_,rfl,rfl,_,_,rfl,rfl,_,_,rfl,⟨p9,_,rfl,aI hp1 _ _ g5,?_⟩,rfl⟩
   exact b8.mpr rfl
 intro pc ys H3 hpc S3 gc hlen hR
 refine go pc H3 S3 hpc ?_
 simp only[Den]
 refine⟨pc,ys,rfl,gc,y8 (by rw[length_map,length_map]; omega) fun i y e=>?_⟩
 obtain⟨k,e1,e2⟩:=hR i y e
 exact⟨_,by rw[getElem?_map,getElem?_map,e1]; rfl,e2⟩
theorem depth_ints:∀ ns:List Int,PyData.depthAll (ns.map .int)=0
 | []=>rfl
 | n::ns=>by
  show max 0 (PyData.depthAll (ns.map .int))=0
  rw[depth_ints ns]
  rfl
theorem sP {ds:List PyData} (h:∀ d∈ds,jR d=true/\PyData.depth d<=2):jR (.list ds)=true/\PyData.depth (.list ds)<=64:=by
 constructor
 ·show jQ ds=true
  exact sT fun d hd=>(h d hd).1
 ·show PyData.depthAll ds+1<=64
  have:=xA fun d hd=>(h d hd).2
  omega
theorem A2 (ns:List Int) (f:Int->Ent):jR (.list ((ns.map fun k=>dZ k (f k)).map cA))=true/\PyData.depth (.list ((ns.map fun k=>dZ k (f k)).map cA))<=64:=sP fun d hd=>by
 rw[map_map]at hd
 obtain⟨k,_,rfl⟩:=mem_map.mp hd
 show jR (f9 "carried" k (dZ k (f k)).2.2)=true/\PyData.depth (f9 "carried" k (dZ k (f k)).2.2)<=2
 generalize (dZ k (f k)).2.2=b
 constructor
 ·unfold f9
  simp only[jR,jQ,zO]
  decide +kernel
 ·show max 0 (max 0 (max (PyData.depthAll (b.map .int)+1) 0))+1<=2
  rw[depth_ints]
  decide
theorem sQ (es:List (Int × Ent)) (ks:List Int):jR (.list (ks.map (fR es)))=true/\PyData.depth (.list (ks.map (fR es)))<=64:=sP fun d hd=>by
 obtain⟨k,_,rfl⟩:=mem_map.mp hd
 unfold fR
 generalize (aM es k).getD ([],0,0)=e
 constructor
 ·unfold vN
  simp only[jR,jQ,zO]
  rfl
 ·show max 0 (max (PyData.depthAll (e.1.map .int)+1) (max 0 0))+1<=2
  rw[depth_ints]
  decide
end
section
variable {A:Ad} {H H1:Hp} {L0 D0:Addr} {L:Pl} {q:Qs} {lg:List (Int × Rw)} {n i m:Nat} {b b':Nat->Bool} {Q:V->Hp->Prop} {E:XK}
theorem Dw (k:Kc A H L0 D0 H1 L q) (z:P1 q lg n b 0 m) (hn:n<=400) (hm:m<30) {bd:List Int} {v:V} (bok:dW bd) (bl:bd.length<=5) (dv:Den H1 (.tuple (bd.map .int)) v)
  (go:∀ L' q' lg' H2,Kc A H L0 D0 H2 L' q'->P1 q' lg' (n+1) b 0 (m+1)->Q (.int m) H2):lS A [.ref L0,v] H1 Q E:=by
 obtain⟨wok,B',hf,lg',z'⟩:=z.puts hn hm bok bl
 have up:=z.up
 have gd:FZ (.tuple (bd.map .int))=true:=BF (k:="put") (n:=0) (.inl rfl) (by decide) (by decide) bok (by omega)
 refine⟨L,q,v,.tuple (bd.map .int),by rw[k.qu],k.qw,dv,(fun bs e=>by injection e with e; rw[<- e,length_map]; omega),(fun y=>by rw[gd]at y; cases y),fun body e hb hl=>?_⟩
 have eb:body=bd:=by
  have:=congrArg a9 e
  rw[dP,dP]at this
  exact this.symm
 subst eb
 refine⟨wok,by omega,B',hf,fun L' H2 st hq=>?_⟩
 rw[up]
 exact go L' _ lg' H2 (k.step st hq) z'
theorem Cm (k:Kc A H L0 D0 H1 L q) (z:P1 q lg n b i m) (hn:n<=400) (hi:i<m) (e0:∀ j,j<i->b j=b' j) (e1:b' i=true)
  (go:∀ v L' q' lg' H2,Kc A H L0 D0 H2 L' q'->P1 q' lg' (n+1) b' (i+1) m->Q v H2):jJ A [.ref L0,.str "a"] H1 Q E:=by
 obtain⟨so,rd,wok,B',e,hf,hl,lg',z'⟩:=z.take hn hi e0 e1
 have cnt:=z.cq.cnt
 have hk:=congrArg List.length z.hk
 have m30:=z.m30
 have hkl:q.hs.length<=30:=by
  rw[length_map]at hk
  unfold eW at hk
  rw[length_map]at hk
  have:=length_filter_le b (List.range i)
  rw[length_range]at this
  omega
 refine⟨L,q,"a",q.B.es.map (·.1),by rw[k.qu],k.qw,by omega,by omega,yX.1,yX.2,List.Perm.refl _,so,(fun y=>by rw[rd,mS hi]at y; cases y),fun n' r er=>?_⟩
 rw[rd,mS hi]at er
 injection er with em _
 subst em
 exact⟨wok,by omega,by omega,B',e,hf,hl,fun p L' H2 st hq d=>go _ L' _ lg' H2 (k.step st hq) z'⟩
theorem Co (k:Kc A H L0 D0 H1 L q) (z:P1 q lg n b (i+1) m) (hn:n<=400) (e0:∀ j,j<i->b j=b' j) (e2:b i=true) (e1:b' i=false)
  (go:∀ v L' q' lg' H2,Kc A H L0 D0 H2 L' q'->P1 q' lg' (n+1) b' (i+1) m->Q v H2):jK A [.ref L0,.str "a",.int (i:Int)] H1 Q E:=by
 obtain⟨⟨tm,hl⟩,wok,B',hf,lg',z'⟩:=z.done hn e0 e2 e1
 have im:=z.im
 have m30:=z.m30
 exact⟨L,q,"a",(i:Int),tm,B',by rw[k.qu],k.qw,yX.1,yX.2,by omega,by omega,hl,wok,hf,fun L' H2 st hq=>go _ L' _ lg' H2 (k.step st hq) z'⟩
end
noncomputable abbrev oN:Stmt:=top 66
def xQ (K:PySem.W.Frag):Sp:=fun vs H Q _=>∃ (a:Addr) (ns:List Int),vs=[.ref a]/\SqL K H a (ns.map V.int)/\∀ H',Q (.bl true) H'
theorem Gd {σ : St} {H:Hp} {v v2:V} {i:Nat} {k:List V->Hp->Prop} (e:σ[i]? = some (some v2)) (h:k [v,v2] H):cI (tC v) (cI (cR i) eQ) σ H k:=⟨_,e,h⟩
theorem GN {σ : St} {H:Hp} {k:List V->Hp->Prop} (h:k [] H):eQ σ H k:=h
theorem EJ (n:Nat) (x:Int):(List.replicate n [V.int x]).flatten=(List.replicate n x).map V.int:=by
 induction n with
 | zero=>rfl
 | succ n ih=>rw[replicate_succ,replicate_succ,flatten_cons,ih]; rfl
theorem A3 (f:Int) (k:Nat):eV f k=f::(List.range k).map fun(i:Nat)=>f+((i+1:Nat):Int):=by
 unfold eV
 rw[range_succ_eq_map,map_cons,map_map]
 show (f+((0:Nat):Int))::_=_
 rw[show f+((0:Nat):Int)=f by omega]
 rfl
theorem DJ (q:Qs):((q.B.es.map (·.1)).filter fun k=>decide (k∈eN q))=eN q:=by
 unfold eN
 refine List.filter_congr fun k hk=>decide_eq_decide.mpr ?_
 rw[mem_filter,decide_eq_true_eq]
 exact⟨fun h=>h.2,fun h=>⟨hk,h⟩⟩
theorem xB {G:Hp}:∀ (n:Nat) {ds:List PyData} {xs:List V},aV G ds xs->aV G (ds.drop n) (xs.drop n)
 | 0,ds,xs,h=>h
 | n+1,[],xs,h=>by
  simp only[aV]at h
  subst h
  rw[List.drop_nil,List.drop_nil]
  simp only[aV]
 | n+1,d::ds,xs,h=>by
  simp only[aV]at h
  obtain⟨v,r,rfl,_,h2⟩:=h
  exact xB n h2
theorem CD {te:TE} {g:TG} {c:TS} {D:Ends} {σ : St} {H:Hp} (h:te σ H fun v H1=>g v σ H1 fun σ2 H2=>c D σ2 H2):hW (Fm te g) c D σ H:=h
theorem FS {w:TI} {g:TG} {b r:TS} {D:Ends} {σ : St} {H:Hp} (h:∀ R,R=r->hW (Ay w g b) R D σ H):hW (Ay w g b) r D σ H:=h r rfl
theorem Gc {e:TE} {g:TG} {r:TS} {D:Ends} {σ : St} {H:Hp} (h:∀ R,R=r->hW (Fm e g) R D σ H):hW (Fm e g) r D σ H:=h r rfl
theorem Hq {c:TT} {a b r:TS} {D:Ends} {σ : St} {H:Hp} (h:∀ R,R=r->hW (Dz c a b) R D σ H):hW (Dz c a b) r D σ H:=h r rfl
section
variable {P:Program} {w:World} {K:PySem.W.Frag} {mg:Str->Option Value} {base:Heap} {A:Ad}
theorem eE:FnScope ["_law_script","_law_most","_law_disk","_law_queue_here","_law_many","_law_number","_law_due","_law_where","_law_name","_law_row","_law_time","_law_numbers","_law_moved","_law_told","_law_rows","_law_mine"] ["_law_script"] (aH oN):=‹0›
theorem HR {f:Addr} {fd:FuncData} (F:Fun K "law" "law" oN f fd) (T:TxtQ K mg A) (TR:TxtR K mg A.kinds A.badRow) (bc9:Maker P w K mg base "Disk" A.disk 3 ["self","steps"] (sL A.disk A.badNumber)) (ae0:‹7› "rows_in" 5 ["some"] (d8 A.badRow A.broken))
  (af3:‹8› A.disk "names" 1 ["self"] (fA A.disk)) (ag6:‹8› A.disk "read" 4 ["self","name"] (iW A.disk A.badName A.missing))
  (ag3:‹8› A.queue "letters" 3 ["self"] (kM A)) (bd0:‹8› A.queue "put" 8 ["self","body"] (lS A)) (av0:‹8› A.queue "take" 8 ["self","hand"] (jJ A)) (av1:‹8› A.queue "done" 8 ["self","hand","number"] (jK A)) (aq1:‹8› A.queue "carry" 8 ["self"] (iK A))
  (ae7:‹7› "_law_cell" 1 ["_law_script","_law_k"] (xS K)) (am0:‹7› "_law_mix" 1 ["_law_cell_here","_law_prime","_law_many"] Az) (ak1:‹7› "_law_seed" 1 ["_law_seed_here","_law_k"] xO) (ak2:‹7› "_law_pick" 1 ["_law_seed_here","_law_many"] xP) (ai6:‹7› "_law_queue" 10 ["_law_disk","_law_settings"] (pI A)) :
  ‹6› 11 f fd ["_law_script"] (xQ K):=by
 refine F.okX eE (fun vs H Q E h=>?_) (fun cdv A' outer s H vs Q E hr h=>?_)
 ·obtain⟨a,ns,rfl,_⟩:=h
  rfl
 ·obtain⟨a,ns,rfl,hs,q⟩:=h
  refine⟨_,@aA _ _ _ _ _ (@aW _ _ (1) _ _ _ _ eE.nd (by rfl) (by first | exact Or.inl (by rfl) | exact Or.inr (by rfl)) (@bJ _ _ _ _ _ _ _ _ eZ ‹18› (@bJ _ _ _ _ _ _ _ _ iP (@bF _ _ _ _ _ _ _ _ _ _ _ ae7 ‹11› a8 (@aD _ _ _ _ _ _ ‹16› (@aP _ _ _ _ _ _ _ ‹18› (@aB _))) ⋯ ⋯ ⋯ ⋯) ‹18›)) ⋯ ⋯) (@aA _ _ _ _ _ (@aW _ _ (2) _ _ _ _ eE.nd (by rfl) (by first | exact Or.inl (by rfl) | exact Or.inr (by rfl)) (@Gv _ _ _ _ _ _ _ _ _ _ _ _ bc9 ‹11› a8 (@aP _ _ _ _ _ _ _ (@lB _ _ _) (@aB _)) ⋯ ⋯ ⋯ ⋯) ⋯ ⋯) (@aA _ _ _ _ _ (@aW _ _ (3) _ _ _ _ eE.nd (by rfl) (by first | exact Or.inl (by rfl) | exact Or.inr (by rfl)) (@bF _ _ _ _ _ _ _ _ _ _ _ ai6 ‹11› a8 (@aD _ _ _ _ _ _ ‹20› (@dN _ _ _ _ _ _ _ (@cB _ _ _ _ _ (@aD _ _ _ _ _ _ ‹17› (@aP _ _ _ _ _ _ _ ‹18› (@aP _ _ _ _ _ _ _ ‹18› (@aB _))))) (@aB _))) ⋯ ⋯ ⋯ ⋯) ⋯ ⋯) (@aA _ _ _ _ _ (@aW _ _ (4) _ _ _ _ eE.nd (by rfl) (by first | exact Or.inl (by rfl) | exact Or.inr (by rfl)) (@bJ _ _ _ _ _ _ _ _ eZ ‹18› (@bJ _ _ _ _ _ _ _ _ iP (@bF _ _ _ _ _ _ _ _ _ _ _ ae7 ‹11› a8 (@aD _ _ _ _ _ _ ‹16› (@aP _ _ _ _ _ _ _ ‹18› (@aB _))) ⋯ ⋯ ⋯ ⋯) ‹18›)) ⋯ ⋯) (@aA _ _ _ _ _ (@fQ _ _ _ _ _ _ _ _ (m6 eM) (by rfl) (@qH _ _ _ _ _ _ (by rfl) T.ah7 (@aD _ _ _ _ _ _ (@pv _ 4 _ _ ⋯ ⋯ ⋯ ⋯) (@aB _)) ⋯) (@bI _ _ (5) _ eE.nd (by rfl) (by first | exact Or.inl (by rfl) | exact Or.inr (by rfl)) ⋯) (@aE _ _ _ (aT (cF bd0 T.aa0 ‹11› a8 (pv 3) (cG (bJ (Ei K) (cB (aD (pv 5) aB)) (bF am0 ‹11› a8 (cG (bJ eZ (bF ae7 ‹11› a8 (aD (pv 0) (aP jG aB))) (pv 5)) (aP jG (aP jG aB))))) aB)))) ⋯) (@aA _ _ _ _ _ (@fQ _ _ _ _ _ _ _ _ (m6 eM) (by rfl) (@qH _ _ _ _ _ _ (by rfl) T.ah7 (@aD _ _ _ _ _ _ (@pv _ 4 _ _ ⋯ ⋯ ⋯ ⋯) (@aB _)) ⋯) (@bI _ _ (5) _ eE.nd (by rfl) (by first | exact Or.inl (by rfl) | exact Or.inr (by rfl)) ⋯) (@aA _ _ _ _ _ (aT (cF av0 T.aa0 ‹11› a8 (pv 3) (aP cW aB))) (@aE _ _ _ (@bG _ _ _ _ _ _ _ _ (@aZ _ _ _ _ _ _ _ _ iQ (@bF _ _ _ _ _ _ _ _ _ _ _ ak2 ‹11› a8 (@eT _ _ _ _ _ _ _ _ (@bF _ _ _ _ _ _ _ _ _ _ _ ak1 ‹11› a8 (@eT _ _ _ _ _ _ _ _ (@bF _ _ _ _ _ _ _ _ _ _ _ ae7 ‹11› a8 (@aD _ _ _ _ _ _ ‹16› (@aP _ _ _ _ _ _ _ ‹18› (@aB _))) ⋯ ⋯ ⋯ ⋯) (@aD _ _ _ _ _ _ (@pv _ 5 _ _ ⋯ ⋯ ⋯ ⋯) (@aB _))) ⋯ ⋯ ⋯ ⋯) (@aP _ _ _ _ _ _ _ ‹18› (@aB _))) ⋯ ⋯ ⋯ ⋯) ‹18› (bK _)) (@aE _ _ _ (aT (cF av1 T.aa0 ‹11› a8 (pv 3) (aP cW (aD (pv 5) aB))))) (@aR _)))) ⋯) (@aA _ _ _ _ _ (@aW _ _ (6) _ _ _ _ eE.nd (by rfl) (by first | exact Or.inl (by rfl) | exact Or.inr (by rfl)) (@eJ _ _ _ _ _ _ _ _ _ _ _ _ ag3 T.aa0 ‹11› a8 ‹21› ⋯) ⋯ ⋯) (@aA _ _ _ _ _ (@aW _ _ (7) _ _ _ _ eE.nd (by rfl) (by first | exact Or.inl (by rfl) | exact Or.inr (by rfl)) (@oW _ _) ⋯ ⋯) (@aA _ _ _ _ _ (@fQ _ _ _ _ _ _ _ _ (m6 eM) (by rfl) (@bU _ K _ _ _ (@eJ _ _ _ _ _ _ _ _ _ _ _ _ af3 T.ab6 ‹11› a8 ‹20› ⋯) ⋯) (@bI _ _ (8) _ eE.nd (by rfl) (by first | exact Or.inl (by rfl) | exact Or.inr (by rfl)) ⋯) (@aE _ _ _ (@fQ _ _ _ _ _ _ _ _ (m6 eM) (by rfl) (@bU _ K _ _ _ (@cX _ _ _ _ _ _ _ (cJ K) (@bF _ _ _ _ _ _ _ _ _ _ _ ae0 ‹11› a8 (@eT _ _ _ _ _ _ _ _ (@cF _ _ _ _ _ _ _ _ _ _ _ _ _ _ _ ag6 T.ab6 ‹11› a8 ‹20› (@aD _ _ _ _ _ _ (@pv _ 8 _ _ ⋯ ⋯ ⋯ ⋯) (@aB _)) ⋯ ⋯ ⋯) (@aB _)) ⋯ ⋯ ⋯ ⋯) ‹18› (fun _ _=>rfl)) ⋯) (@bI _ _ (9) _ eE.nd (by rfl) (by first | exact Or.inl (by rfl) | exact Or.inr (by rfl)) ⋯) (@aE _ _ _ (@bG _ _ _ _ _ _ _ _ (@PW.pt _ _ _ (@tO _ _ _ _ _ _ _ (@aZ _ _ _ _ _ _ _ _ iQ (@cX _ _ _ _ _ _ _ (cJ K) (@pv _ 9 _ _ ⋯ ⋯ ⋯ ⋯) ‹18› (fun _ _ => rfl)) (@cW _ _ _ _) (bK _)) (@oQ _ _ _ _ (@aZ _ _ _ _ _ _ _ _ (BM K) (@cX _ _ _ _ _ _ _ (cJ K) (@pv _ 9 _ _ ⋯ ⋯ ⋯ ⋯) ‹18› (fun _ _ => rfl)) (@dI _ _ _ _ _ _ _ _ _ _ _ ["_law_letter"] [] (by rfl) (@bU _ K _ _ _ (@pv _ 6 _ _ ⋯ ⋯ ⋯ ⋯) ⋯) (fun C s2 H2 ex=>(@bI _ _ (0) _ (show List.Nodup (["_law_letter"]:List Str) by decide +kernel) (by rfl) (Or.inl (by rfl)) ⋯)) (fun C s2 H2 ex => (@Fz _)) (fun C s2 H2 ex=>‹29›) ⋯ ⋯ ⋯ ⋯) (by rfl))))) (@aE _ _ _ (@i5 _ _ _ _ _ _ _ _ _ (hu1 hr.units) (@pv _ 7 _ _ ⋯ ⋯ ⋯ ⋯) (@cX _ _ _ _ _ _ _ (cJ K) (@pv _ 9 _ _ ⋯ ⋯ ⋯ ⋯) ‹18› (fun _ _ => rfl)) (@iE _ _ _ _ _ _ _ _ _ qU (by rfl) T.ao8 zH (@aN _ _ _ _ _ _ _ (@eI _ _ _ _ _ _ _ _ _ _ A1 (@pv _ 8 _ _ ⋯ ⋯ ⋯ ⋯) (@fH _ _ _ ‹18›) (@gO _)) (@aB _)) ⋯ ⋯ ⋯ ⋯) (by rfl))) (@aR _))) ⋯)) ⋯) (@aA _ _ _ _ _ (@fQ _ _ _ _ _ _ _ _ (m6 eM) (by rfl) (@qH _ _ _ _ _ _ (by rfl) T.ah7 (@cG _ _ _ _ _ _ _ _ (@bJ _ _ _ _ _ _ _ _ eZ ‹18› (@bJ _ _ _ _ _ _ _ _ iP (@bF _ _ _ _ _ _ _ _ _ _ _ ae7 ‹11› a8 (@aD _ _ _ _ _ _ ‹16› (@aP _ _ _ _ _ _ _ ‹18› (@aB _))) ⋯ ⋯ ⋯ ⋯) ‹18›)) (@aB _)) ⋯) (@bI _ _ (10) _ eE.nd (by rfl) (by first | exact Or.inl (by rfl) | exact Or.inr (by rfl)) ⋯) (@aA _ _ _ _ _ (@aW _ _ (11) _ _ _ _ eE.nd (by rfl) (by first | exact Or.inl (by rfl) | exact Or.inr (by rfl)) (@aY _ _ _ _ _ _ _ _ _ lK (by rfl) T.ac9 gJ (@eK _ _ _ _ _ _ _ _ (@dI _ _ _ _ _ _ _ _ _ _ _ ["_law_name"] [] (by rfl) (@bU _ K _ _ _ (@eJ _ _ _ _ _ _ _ _ _ _ _ _ af3 T.ab6 ‹11› a8 ‹20› ⋯) ⋯) (fun C s2 H2 ex=>(@bI _ _ (0) _ (show List.Nodup (["_law_name"]:List Str) by decide +kernel) (by rfl) (Or.inl (by rfl)) ⋯)) (fun C s2 H2 ex => (@Fz _)) (fun C s2 H2 ex=>(@iE _ _ _ _ _ _ _ _ _ qU (by rfl) T.ao8 zH (@aN _ _ _ _ _ _ _ (@eI _ _ _ _ _ _ _ _ _ _ A1 ‹16› (@fH _ _ _ ‹18›) (@gO _)) (@aB _)) ⋯ ⋯ ⋯ ⋯)) ⋯ ⋯ ⋯ ⋯) (@aB _)) ⋯ ⋯ ⋯ ⋯) ⋯ ⋯) (@aA _ _ _ _ _ (@aW _ _ (12) _ _ _ _ eE.nd (by rfl) (by first | exact Or.inl (by rfl) | exact Or.inr (by rfl)) (@dI _ _ _ _ _ _ _ _ _ _ _ ["_law_number"] [("_law_where",7),("_law_numbers",11)] (by rfl) (@bU _ K _ _ _ (@aY _ _ _ _ _ _ _ _ _ (@lJ _ (by rfl)) (by rfl) T.ac9 gJ (@aD _ _ _ _ _ _ (@pv _ 7 _ _ ⋯ ⋯ ⋯ ⋯) (@aB _)) ⋯ ⋯ ⋯ ⋯) ⋯) (fun C s2 H2 ex=>(@bI _ _ (0) _ (show List.Nodup (["_law_number","_law_where","_law_numbers"]:List Str) by decide +kernel) (by rfl) (Or.inl (by rfl)) ⋯)) (fun C s2 H2 ex=>(@oV _ _ _ (@aZ _ _ _ _ _ _ _ _ iQ (@i6 _ _ _ _ _ _ (hu1 hr.units) ‹17› ‹16› (fun _ _=>rfl)) (@cX _ _ _ _ _ _ _ (fT K) ‹20› ‹18› (fun _ _=>rfl)) (bK _)))) (fun C s2 H2 ex=>‹16›) ⋯ ⋯ ⋯ ⋯) ⋯ ⋯) (@aA _ _ _ _ _ (@aW _ _ (13) _ _ _ _ eE.nd (by rfl) (by first | exact Or.inl (by rfl) | exact Or.inr (by rfl)) (@eJ _ _ _ _ _ _ _ _ _ _ _ _ aq1 T.aa0 ‹11› a8 ‹21› ⋯) ⋯ ⋯) (@aA _ _ _ _ _ (@bG _ _ _ _ _ _ _ _ (@aZ _ _ _ _ _ _ _ _ iQ (@aY _ _ _ _ _ _ _ _ _ (dQ K) (by rfl) T.ae2 iS (@aD _ _ _ _ _ _ (@pv _ 11 _ _ ⋯ ⋯ ⋯ ⋯) (@aB _)) ⋯ ⋯ ⋯ ⋯) ‹18› (bK _)) (@aE _ _ _ (@bB _ _ _ _ (@qI _ _ _ _ _ _ _ (@i7 _ _ _ _ _ _ _ _ HN (@pv _ 13 _ _ ⋯ ⋯ ⋯ ⋯) (@lB _ _ _) (bK _)) (@tU _ _ _ _ _ (@i7 _ _ _ _ _ _ _ _ (HP hr.units) (@eJ _ _ _ _ _ _ _ _ _ _ _ _ ag3 T.aa0 ‹11› a8 ‹21› ⋯) (@pv _ 6 _ _ ⋯ ⋯ ⋯ ⋯) (bK _)))))) (@aR _)) (@aA _ _ _ _ _ (@bG _ _ _ _ _ _ _ _ (@PW.pt _ _ _ (@q0 _ _ _ _ _ _ _ (@aZ _ _ _ _ _ _ _ _ CM (@pv _ 13 _ _ ⋯ ⋯ ⋯ ⋯) (@aY _ _ _ _ _ _ _ _ _ (dQ K) (by rfl) T.ae2 iS (@aD _ _ _ _ _ _ (@pv _ 12 _ _ ⋯ ⋯ ⋯ ⋯) (@aB _)) ⋯ ⋯ ⋯ ⋯) (bK _)) (@q0 _ _ _ _ _ _ _ (@aZ _ _ _ _ _ _ _ _ (yJ hr.units) (@eJ _ _ _ _ _ _ _ _ _ _ _ _ ag3 T.aa0 ‹11› a8 ‹21› ⋯) (@pv _ 6 _ _ ⋯ ⋯ ⋯ ⋯) (bK _)) (@nR _ _ _ _ (@aZ _ _ _ _ _ _ _ _ (BM K) (@bJ _ _ _ _ _ _ _ _ (@tW _) (@cW _ _ _ _) (@iE _ _ _ _ _ _ _ _ _ (@xD _) (by rfl) TR.ar5 zG (@aN _ _ _ _ _ _ _ (@cX _ _ _ _ _ _ _ (fT K) (@pv _ 11 _ _ ⋯ ⋯ ⋯ ⋯) ‹18› (fun _ _=>rfl)) (@aB _)) ⋯ ⋯ ⋯ ⋯)) (@eJ _ _ _ _ _ _ _ _ _ _ _ _ af3 T.ab6 ‹11› a8 ‹20› ⋯) (by rfl)))))) (@aE _ _ _ (@bB _ _ _ _ (@CL _ _ _ _))) (@aR _)) (@aA _ _ _ _ _ (@aW _ _ (14) _ _ _ _ eE.nd (by rfl) (by first | exact Or.inl (by rfl) | exact Or.inr (by rfl)) (@jF _ _ _ _ (@aB _)) ⋯ ⋯) (@aA _ _ _ _ _ (@fQ _ _ _ _ _ _ _ _ (m6 eM) (by rfl) (@bU _ K _ _ _ (@aY _ _ _ _ _ _ _ _ _ lK (by rfl) T.ac9 gJ (@eK _ _ _ _ _ _ _ _ (@dI _ _ _ _ _ _ _ _ _ _ _ ["_law_name"] [] (by rfl) (@bU _ K _ _ _ (@eJ _ _ _ _ _ _ _ _ _ _ _ _ af3 T.ab6 ‹11› a8 ‹20› ⋯) ⋯) (fun C s2 H2 ex=>(@bI _ _ (0) _ (show List.Nodup (["_law_name"]:List Str) by decide +kernel) (by rfl) (Or.inl (by rfl)) ⋯)) (fun C s2 H2 ex => (@Fz _)) (fun C s2 H2 ex=>(@iE _ _ _ _ _ _ _ _ _ qU (by rfl) T.ao8 zH (@aN _ _ _ _ _ _ _ (@eI _ _ _ _ _ _ _ _ _ _ A1 ‹16› (@fH _ _ _ ‹18›) (@gO _)) (@aB _)) ⋯ ⋯ ⋯ ⋯)) ⋯ ⋯ ⋯ ⋯) (@aB _)) ⋯ ⋯ ⋯ ⋯) ⋯) (@bI _ _ (5) _ eE.nd (by rfl) (by first | exact Or.inl (by rfl) | exact Or.inr (by rfl)) ⋯) (@aE _ _ _ (@fQ _ _ _ _ _ _ _ _ (m6 eM) (by rfl) (@bU _ K _ _ _ (@cX _ _ _ _ _ _ _ (cJ K) (@bF _ _ _ _ _ _ _ _ _ _ _ ae0 ‹11› a8 (@eT _ _ _ _ _ _ _ _ (@cF _ _ _ _ _ _ _ _ _ _ _ _ _ _ _ ag6 T.ab6 ‹11› a8 ‹20› (@cG _ _ _ _ _ _ _ _ (@bJ _ _ _ _ _ _ _ _ (@tW _) (@cW _ _ _ _) (@iE _ _ _ _ _ _ _ _ _ (@xD _) (by rfl) TR.ar5 zG (@aD _ _ _ _ _ _ (@pv _ 5 _ _ ⋯ ⋯ ⋯ ⋯) (@aB _)) ⋯ ⋯ ⋯ ⋯)) (@aB _)) ⋯ ⋯ ⋯) (@aB _)) ⋯ ⋯ ⋯ ⋯) ‹18› (fun _ _=>rfl)) ⋯) (@bI _ _ (9) _ eE.nd (by rfl) (by first | exact Or.inl (by rfl) | exact Or.inr (by rfl)) ⋯) (@aE _ _ _ (@bG _ _ _ _ _ _ _ _ (@aZ _ _ _ _ _ _ _ _ iQ (@cX _ _ _ _ _ _ _ (cJ K) (@pv _ 9 _ _ ⋯ ⋯ ⋯ ⋯) ‹18› (fun _ _ => rfl)) (@cW _ _ _ _) (bK _)) (@aA _ _ _ _ _ (@i5 _ _ _ _ _ _ _ _ _ (hu1 hr.units) (@pv _ 7 _ _ ⋯ ⋯ ⋯ ⋯) (@cX _ _ _ _ _ _ _ (cJ K) (@pv _ 9 _ _ ⋯ ⋯ ⋯ ⋯) ‹18› (fun _ _ => rfl)) (@pv _ 5 _ _ ⋯ ⋯ ⋯ ⋯) (by rfl)) (@aE _ _ _ (aT (nT K PySem.F.plainAttrs_list PySem.F.slot_list_append PySem.F.type_list_append kA (pv 14) (aD (pv 9) aB))))) (@aR _))) ⋯)) ⋯) (@aA _ _ _ _ _ (@Fy _ _ _ (15) _ _ _ _ _ _ _ _ _ _ _ ["_law_letter"] [("_law_moved",12)] eE.nd (by rfl) (by first | exact Or.inl (by rfl) | exact Or.inr (by rfl)) (by rfl) (@bU _ K _ _ _ (@pv _ 6 _ _ ⋯ ⋯ ⋯ ⋯) ⋯) (fun C s2 H2 ex=>(@bI _ _ (0) _ (show List.Nodup (["_law_letter","_law_moved"]:List Str) by decide +kernel) (by rfl) (Or.inl (by rfl)) ⋯)) (fun C s2 H2 ex=>(@oV _ _ _ (@aZ _ _ _ _ _ _ _ _ (BM K) ‹29› ‹17› (by rfl)))) (fun C s2 H2 ex=>‹16›) ⋯ ⋯ ⋯ ⋯ ⋯ ⋯) (@aE _ _ _ (@bG _ _ _ _ _ _ _ _ (@aZ _ _ _ _ _ _ _ _ (yJ hr.units) (@eI _ _ _ _ _ _ _ _ _ _ (sO K) (@pv _ 14 _ _ ⋯ ⋯ ⋯ ⋯) (@fH _ _ _ (@bJ _ _ _ _ _ _ _ _ qM (@aY _ _ _ _ _ _ _ _ _ (dQ K) (by rfl) T.ae2 iS (@aD _ _ _ _ _ _ (@pv _ 14 _ _ ⋯ ⋯ ⋯ ⋯) (@aB _)) ⋯ ⋯ ⋯ ⋯) (@aY _ _ _ _ _ _ _ _ _ (dQ K) (by rfl) T.ae2 iS (@aD _ _ _ _ _ _ (@pv _ 12 _ _ ⋯ ⋯ ⋯ ⋯) (@aB _)) ⋯ ⋯ ⋯ ⋯))) (@gO _)) (@dI _ _ _ _ _ _ _ _ _ _ _ ["_law_number","_law_body","_law_times"] [] (by rfl) (@bU _ K _ _ _ (@pv _ 15 _ _ ⋯ ⋯ ⋯ ⋯) ⋯) (fun C s2 H2 ex=>(@CK _ K _ _ _ (3) _ (@mB _ _ _ _ _ (@bI _ _ (0) _ (show List.Nodup (["_law_number","_law_body","_law_times"]:List Str) by decide +kernel) (by rfl) (Or.inl (by rfl)) ⋯) (@mB _ _ _ _ _ (@bI _ _ (1) _ (show List.Nodup (["_law_number","_law_body","_law_times"]:List Str) by decide +kernel) (by rfl) (Or.inl (by rfl)) ⋯) (@mB _ _ _ _ _ (@bI _ _ (2) _ (show List.Nodup (["_law_number","_law_body","_law_times"]:List Str) by decide +kernel) (by rfl) (Or.inl (by rfl)) ⋯) (@CJ _) ⋯) ⋯) ⋯) ⋯ ⋯ ⋯ ⋯)) (fun C s2 H2 ex => (@Fz _)) (fun C s2 H2 ex=>(@cB _ _ _ _ _ (@aP _ _ _ _ _ _ _ (@cW _ _ _ _) (@aD _ _ _ _ _ _ ‹16› (@cG _ _ _ _ _ _ _ _ (@bJ _ _ _ _ _ _ _ _ lC (@cB _ _ _ _ _ (@aD _ _ _ _ _ _ ‹20› (@aB _))) ‹17›) (@aB _)))))) ⋯ ⋯ ⋯ ⋯) (bK _)) (@aE _ _ _ (@bB _ _ _ _ (@CL _ _ _ _))) (@aR _))))))))))) ⋯) (@aE _ _ _ (@bB _ _ _ _ (@CL _ _ _ _)))))))))))),?_⟩
  refine zP fun R hR=>?_
  have x0:=Int.emod_nonneg (ns.getD (Int.toNat 0) 0) (show (80:Int)≠0 by decide)
  have x1:=Int.emod_lt_of_pos (ns.getD (Int.toNat 0) 0) (show (0:Int)<80 by decide)
  refine⟨_,rfl,a,ns,0,rfl,by decide,hs,_,_,rfl,rfl,(by show (0:Int)<80; decide),_,_,rfl,rfl,?_⟩
  show cO 1 (V.int (8+ns.getD (Int.toNat 0) 0 % 80)) _ _ _
  obtain⟨mo,emo,m8,m67⟩:∃ mo:Int,8+ns.getD (Int.toNat 0) 0 % 80=mo/\8<=mo/\mo<=87:=⟨_,rfl,by omega,by omega⟩
  rw[emo]
  clear emo x0 x1
  refine fun dk dx hdk hdx ne=>⟨dk,dx,.non,.none,rfl,aC,by simp only[Den],(fun z=>by cases z),fun _ df H1 f1 hdf hD1=>⟨rfl,_,rfl,_,rfl,bY,fun p5 hp5=>?_⟩⟩
  have S1:aG H H1:=fun b o e=>by
   have nb:b≠dk:=bC e hdk
   have nd:b≠dx:=bC e hdx
   exact f1 b o (by rw[aF nb,aF nd]; exact e) nb
  have hdf0:H df=none:=by
   cases e:H df with
   | none=>rfl
   | some o=>
    rw[aF (bC e hdk),aF (bC e hdx),e]at hdf
    cases hdf
  have fresh1:∀ b,own dk df [] b->H b=none:=by
   rintro b (rfl | rfl | hb)
   ·exact hdk
   ·exact hdf0
   ·simp at hb
  have hDA:DiskAt A.disk H1 dk df [] ⟨[],0,none⟩:=hD1
  have W5:=aI (o:=.tup [.int mo,.int 99,.int 9]) hp5
  have w5:upd H1 p5 (.tup [.int mo,.int 99,.int 9]) p5=some (.tup [.int mo,.int 99,.int 9]):=aC
  refine⟨dk,df,p5,[],⟨[],0,none⟩,mo,99,9,rfl,w5,?_,hDA.same W5,⟨rfl,rfl⟩,fun L d7 H7 eL f7 w7 hq7=>?_⟩
  ·unfold vW
   simp only[bN,and_eq_true,decide_eq_true_eq]
   omega
  have S7:aG H H7:=fun b o e=>f7 b o (W5 _ _ (S1 b o e)) (fun ho=>by rw[fresh1 b ho]at e; cases e)
  have fr7:∀ b,iC L b->H b=none:=fun b hb=>by
   rcases w7 b hb with y | y
   ·exact fresh1 b y
   ·exact(S1.trans W5).free y
  obtain⟨L0,eL0⟩:∃ L0,L0=L.qu:=⟨_,rfl⟩
  rw[<- eL0]
  have k7:Kc A H L0 dk H7 L _:=⟨S7,eL0.symm,eL,fr7,hq7⟩
  have x0:=Int.emod_nonneg (ns.getD (Int.toNat 1) 0) (show (30:Int)≠0 by decide)
  have x1:=Int.emod_lt_of_pos (ns.getD (Int.toNat 1) 0) (show (0:Int)<30 by decide)
  refine⟨_,rfl,a,ns,1,rfl,by decide,S7.seq hs,_,_,rfl,rfl,(by show (0:Int)<30; decide),_,_,rfl,rfl,?_⟩
  show cO 4 (V.int (1+ns.getD (Int.toNat 1) 0 % 30)) _ _ _
  obtain⟨mn,emn,mn1,mn30⟩:∃ mn:Nat,1+ns.getD (Int.toNat 1) 0 % 30=(mn:Int)/\1<=mn/\mn<=30:=⟨(1+ns.getD (Int.toNat 1) 0 % 30).toNat,by omega,by omega,by omega⟩
  rw[emn]
  clear emn x0 x1 f1 f7 w7 w5 W5 hDA hD1 fresh1 hdf0 S7 fr7
  obtain⟨b,eb⟩:∃ b:Nat->Bool,b=fun(k:Nat)=>!decide (V.int (Ea (EC (ns.getD (Int.toNat 3) 0) (k:Int)) 3)=V.int 0):=⟨_,rfl⟩
  obtain⟨lg7,z7⟩:=P1.first (d:=d7) m8 m67 b
  generalize AG mo 99 9 d7=q7 at hq7 z7 k7
  clear hq7
  subst hR
  dsimp only[cO]
  refine FS fun R hR=>?_
  refine⟨_,rfl,(mn:Int),rfl,by omega,by omega,?_⟩
  refine hG (pE (H:=fun _=>none) 0 (Int.toNat (mn:Int))) (fun i σ H'=>∃ L1 q1 lg1,∃ z5:Option V,Kc A H L0 dk H' L1 q1/\P1 q1 lg1 i b 0 i/\σ = [some (.ref a),some (.int mo),some (.ref dk),some (.ref L0),some (.int (mn:Int)),z5,none,none,none,none,none,none,none,none,none,none]) ⟨L,q7,lg7,_,k7,z7,rfl⟩ (fun _ _ _ _ b o e=>by cases e) ?_ ?_
  ·rintro D' i x σ H9 H10 hD' - hi ⟨L1,q1,lg1,z5,k1,z1,rfl⟩ s10 hx
   have hx:x = .int (0+(i:Int)):=hx
   rw[Int.zero_add]at hx
   subst hx
   rw[toNat_natCast]at hi
   have k1:=k1.sames s10
   obtain⟨dx1,h1⟩:=k1.self
   obtain⟨kn,ekn⟩:∃ kn:Nat,Ex (ns.getD (Int.toNat 2) 0+(i:Int)) 9949 6=(kn:Int):=⟨(Ex (ns.getD (Int.toNat 2) 0+(i:Int)) 9949 6).toNat,by
    have:=Int.emod_nonneg ((((ns.getD (Int.toNat 2) 0+(i:Int)) * 48271 % 9949) ^ 3) % 9949) (show (6:Int)≠0 by decide)
    unfold Ex
    omega⟩
   have kn5:kn<=5:=by
    have:=Int.emod_lt_of_pos ((((ns.getD (Int.toNat 2) 0+(i:Int)) * 48271 % 9949) ^ 3) % 9949) (show (0:Int)<6 by decide)
    unfold Ex at ekn
    omega
   have bok:dW (List.replicate kn (i:Int)):=fun y hy=>by
    rw[List.eq_of_mem_replicate hy]
    omega
   have dn:∀ {G:Hp} {p:Addr} {xs:List V},xs=(List.replicate kn (i:Int)).map V.int->G p=some (.tup xs)->Den G (.tuple ((List.replicate kn (i:Int)).map .int)) (.ref p):=fun e g=>by
    simp only[Den]
    exact⟨_,_,rfl,g,b8.mpr e⟩
   refine⟨_,rfl,L0,dx1,_,rfl,h1,rfl,_,rfl,bY,fun p1 hp1=>⟨_,rfl,a,ns,2,rfl,by decide,(k1.same.trans (aI hp1)).seq hs,_,rfl,_,_,rfl,rfl,_,9949,6,rfl,by decide,by decide,by decide,?_⟩⟩
   rw[ekn]
   have gp:∀ {v:V} {G:Hp},aG H10 G->Den G (.tuple ((List.replicate kn (i:Int)).map .int)) v->lS A [.ref L0,v] G (fun x H'=>D'.nx [some (.ref a),some (.int mo),some (.ref dk),some (.ref L0),some (.int (mn:Int)),some (.int (i:Int)),none,none,none,none,none,none,none,none,none,none] H') E0:=fun s d=>
    Dw (k1.sames s) z1 (by omega) (by omega) bok (by rw[List.length_replicate]; exact kn5) d fun L' q' lg' H2 k' z'=>hD' _ _ ⟨L',q',lg',_,k',z',rfl⟩
   refine⟨p1,(kn:Int),_,rfl,rfl,SqT.of aC,by simp,by omega,by omega,le_of_ble_eq_true rfl,fun e1=>?_,fun _ p2 hp2=>?_⟩
   ·refine gp (aI hp1) (dn ?_ aC)
    have:kn=1:=by omega
    rw[this]
    rfl
   ·refine gp ((aI hp1).trans (aI hp2)) (dn ?_ aC)
    rw[toNat_natCast]
    exact EJ _ _
  rintro σ H9 ⟨L1,q1,lg1,z5,k1,z1,rfl⟩
  rw[toNat_natCast]at z1
  clear k7 z7
  subst hR
  try dsimp only[cO]
  refine FS fun R hR=>?_
  refine⟨_,rfl,(mn:Int),rfl,by omega,by omega,?_⟩
  refine hG (pE (H:=fun _=>none) 0 (Int.toNat (mn:Int))) (fun i σ H'=>∃ L1 q1 lg1,∃ (n:Nat) (z5:Option V),Kc A H L0 dk H' L1 q1/\P1 q1 lg1 n b i mn/\n<=mn+2 * i/\σ = [some (.ref a),some (.int mo),some (.ref dk),some (.ref L0),some (.int (mn:Int)),z5,none,none,none,none,none,none,none,none,none,none]) ⟨L1,q1,lg1,_,_,k1,z1,le_refl _,rfl⟩ (fun _ _ _ _ b o e=>by cases e) ?_ ?_
  ·rintro D' i x σ H10 H11 hD' - hi ⟨L2,q2,lg2,n,z5,k2,z2,hn,rfl⟩ s11 hx
   have hx:x = .int (0+(i:Int)):=hx
   rw[Int.zero_add]at hx
   subst hx
   rw[toNat_natCast]at hi
   have k2:=k2.sames s11
   obtain⟨dx2,h2⟩:=k2.self
   refine⟨_,rfl,L0,dx2,_,rfl,h2,rfl,Hr ?_⟩
   show jJ A [.ref L0,.str "a"] _ _ _
   refine Cm (b':=fun j=>if j=i then true else b j) k2 z2 (by omega) hi (fun j hj=>by rw[if_neg (by omega)]) (if_pos rfl) fun v L3 q3 lg3 H12 k3 z3=>?_
   refine⟨_,rfl,a,ns,3,rfl,by decide,k3.same.seq hs,_,rfl,_,_,rfl,_,3,rfl,by decide,rfl,_,rfl,?_⟩
   by_cases hb:V.int (Ea (EC (ns.getD (Int.toNat 3) 0) (i:Int)) 3)=V.int 0
   ·rw[decide_eq_true hb]
    obtain⟨dx3,h3⟩:=k3.self
    refine aX ⟨_,rfl,L0,dx3,_,rfl,h3,rfl,Gd rfl ?_⟩
    show jK A [.ref L0,.str "a",.int (i:Int)] _ _ _
    refine Co k3 z3 (by omega) (b':=b) (fun j hj=>by rw[if_neg (by omega)]) (if_pos rfl) (by rw[eb]; show (!decide _)=false; rw[decide_eq_true hb]; rfl) fun v L4 q4 lg4 H13 k4 z4=>?_
    exact hD' _ _ ⟨L4,q4,lg4,_,_,k4,z4,by omega,rfl⟩
   ·rw[decide_eq_false hb]
    refine bE (hD' _ _ ⟨L3,q3,lg3,_,_,k3,z3.congr fun j hj=>?_,by omega,rfl⟩)
    by_cases hj:j=i
    ·rw[if_pos hj,hj,eb]
     show true = !decide _
     rw[decide_eq_false hb]
     rfl
    ·rw[if_neg hj]
  rintro σ H10 ⟨L2,q2,lg2,n,z5,k2,z2,hn,rfl⟩
  rw[toNat_natCast]at z2 hn
  clear k1 z1
  have n90:n<=90:=by omega
  obtain⟨dx2,h2⟩:=k2.self
  have cnt:=z2.cq.cnt
  subst hR
  try dsimp only[cO]
  refine jP fun R hR=>?_
  refine⟨_,rfl,L0,dx2,_,rfl,h2,rfl,L2,q2,by rw[k2.qu],k2.qw,by omega,fun ms perm pw pd H11 S11 hpd d11=>?_⟩
  have em:ms=q2.B.es.map (·.1):=eA perm pw (z2.cq.so.imp Int.le_of_lt)
  subst em
  have k11:=k2.sames S11
  have opd:¬ iC L2 pd:=(k2.off hpd).2
  have hd:=k11.due (AR _ _) opd d11
  have hs':=k11.cutS.seq hs
  have kb:=k11.base
  generalize Ag H11 L2=Hb at hd hs' kb
  clear k2 k11 opd d11 S11 hpd h2 dx2 perm pw hs
  obtain⟨es0,ees⟩:∃ es0,es0=q2.B.es:=⟨_,rfl⟩
  refine fun pw hpw=>?_
  have S12:=aI (o:=.dK []) hpw
  have g12:upd H11 pw (.dK []) pw=some (.dK []):=aC
  generalize upd H11 pw (.dK [])=H12 at S12 g12 ⊢
  have ow:=kb.off hpw
  subst hR
  try dsimp only[cO]
  refine FS fun R hR=>?_
  refine walk1 (kb.sames S12) z2 (by omega) hd g12 ow fun H13 ws z8 z9 k13 gw hk hw=>?_
  subst hR
  try dsimp only[cO]
  refine FS fun R hR=>?_
  refine⟨_,rfl,a,ns,4,rfl,by decide,k13.same.seq hs',_,_,rfl,rfl,(by show (0:Int)<6; decide),_,_,rfl,rfl,?_⟩
  have x0:=Int.emod_nonneg (ns.getD (Int.toNat 4) 0) (show (6:Int)≠0 by decide)
  have x1:=Int.emod_lt_of_pos (ns.getD (Int.toNat 4) 0) (show (0:Int)<6 by decide)
  obtain⟨ct,ect,ct6⟩:∃ ct:Nat,1+ns.getD (Int.toNat 4) 0 % 6=(ct:Int)/\ct<=6:=⟨(1+ns.getD (Int.toNat 4) 0 % 6).toNat,by omega,by omega⟩
  refine⟨(ct:Int),by rw[<- ect],by omega,by omega,?_⟩
  clear x0 x1 ect kb S12 g12 hpw
  have sg0:∀ k e,aM q2.B.es k=some e->q2.first<=e.2.2:=fun k e el=>z2.fst _ (z2.put k e el)
  obtain⟨ks0,eks⟩:∃ ks0,ks0=q2.B.es.map (·.1):=⟨_,rfl⟩
  have lks:ks0.length<=30:=by rw[eks,length_map]; exact cnt
  rw[<- eks,<- ees]at hd
  rw[<- eks]at hk hw
  refine hG (pE (H:=fun _=>none) 0 (Int.toNat (ct:Int))) (fun i σ H'=>∃ L q lg,∃ (n:Nat) (ws:List (Int × Int)) (z5 z8 z9 z10 z11 z12 z13 z14 z15:Option V),Kc A Hb L0 dk H' L q/\Cq q lg n/\n<=90+30 * i/\q.B.es.map (·.1)=ks0/\(∀ k,fR q.B.es k=fR es0 k)/\(∀ k e,aM q.B.es k=some e->q.first<=e.2.2)/\H' pw=some (.dK (wsK ws))/\Off Hb L pw/\List.Perm (ws.map (·.1)) ks0/\(∀ x,x∈ks0->fE ws x=some (gT q.B.es x))/\
   σ = [some (.ref a),some (.int mo),some (.ref dk),some (.ref L0),some (.int (mn:Int)),z5,some (.ref pd),some (.ref pw),z8,z9,z10,z11,z12,z13,z14,z15]) ⟨L2,q2,lg2,n,ws,_,_,_,_,_,_,_,_,_,k13,z2.cq,by omega,eks.symm,(fun k=>by rw[ees]),sg0,gw,ow,hk,hw,rfl⟩ (fun _ _ _ _ b o e=>by cases e) ?_ (fun σ H' _=>by subst hR; exact q H')
  clear hk hw gw k13 z8 z9 ow sg0 z2 eks ees cnt n90 hn n lg2 q2 L2 ws
  rintro D' i x σ H14 H15 hD' hrt hi ⟨L,q3,lg,n,ws,z5,z8,z9,z10,z11,z12,z13,z14,z15,k3,cq,hn,hks,hlet,sg,gw,ow,hk,hw,rfl⟩ s15 hx
  rw[toNat_natCast]at hi
  have k3:=k3.sames s15
  have gw:=s15 _ _ gw
  obtain⟨kk,ek,_⟩:=cq.sz.keys
  have f0:=cq.sz.f0
  have top:=cq.sz.top
  try dsimp only[cO]
  refine Gc fun R1 hR1=>?_
  refine CD (CZ k3 cq.sz (by omega) ek rfl fun pn H16 S16 hpn gn=>?_)
  have opn:=k3.off hpn
  have k4:=k3.sames S16
  have gw4:=S16 _ _ gw
  have gn':=gn
  rw[A3]at gn'
  subst hR1
  try dsimp only[cO]
  refine Gc fun R1 hR1=>?_
  refine CD (FB cq gw4 (by rw[hks]; exact hk) (by rw[hks]; exact hw) gn' rfl rfl fun pm H17 S17 hpm gm=>?_)
  have opm:=k4.off hpm
  have k5:=k4.sames S17
  have gw5:=S17 _ _ gw4
  have gn5:=S17 _ _ gn
  have gn5':=S17 _ _ gn'
  obtain⟨dx5,h5⟩:=k5.self
  subst hR1
  try dsimp only[cO]
  refine Gc fun R1 hR1=>?_
  refine⟨_,rfl,L0,dx5,_,rfl,h5,rfl,GN ?_⟩
  show iK A [.ref L0] _ _ _
  refine Cp k5 cq (by omega) (fun e1=>?_) fun ne L' q' H18 st hq ci=>?_
  ·subst hR1
   try dsimp only[cO]
   refine Hq fun R1 hR1=>?_
   refine⟨_,rfl,pn,_,rfl,.inl (SqL.of gn5),rfl,_,rfl,?_⟩
   rw[length_map,iD,decide_eq_true (show V.int ((kk+1:Nat):Int)=V.int 1 by rw[show kk=0 by omega]; rfl)]
   refine aX ⟨_,rfl,rfl,_,rfl,?_⟩
   refine aX ⟨_,rfl,L0,dx5,_,rfl,h5,rfl,L,q3,by rw[k5.qu],k5.qw,by have:=cq.cnt; omega,fun ms perm pw' p19 H19 S19 _ d19=>?_⟩
   have em:ms=ks0:=eA perm pw' (by rw[hks]; exact hks ▸ cq.so.imp Int.le_of_lt) |>.trans hks
   rw[em,funext hlet]at d19
   have sh:=sQ es0 ks0
   refine⟨_,rfl,.list (ks0.map (fR es0)),.list (ks0.map (fR es0)),d19,hd.same (k5.same.trans S19),mO sh.1 sh.2,mO sh.1 sh.2,?_⟩
   rw[uU sh.1,hrt]
   exact q _
  obtain⟨lg',cq',hks',hlet',sg',⟨R,hR⟩,hwh,ef⟩:=ci.fin cq (by omega) ne sg
  have k6:=k5.step st hq
  obtain⟨ow6,gw6⟩:=ow.step st gw5
  obtain⟨opn6,gn6⟩:=opn.step st gn5
  obtain⟨_,gn6'⟩:=opn.step st gn5'
  obtain⟨opm6,gm6⟩:=opm.step st gm
  generalize fX q'=q4 at cq' hks' hlet' sg' hR hwh ef k6 hq
  have cnt':=cq'.cnt
  subst hR1
  try dsimp only[cO]
  refine Hq fun R1 hR1=>?_
  refine⟨_,rfl,pn,_,rfl,.inl (SqL.of gn6),rfl,_,rfl,?_⟩
  rw[length_map,iD,mY (show ((kk+1:Nat):Int)≠1 by omega)]
  refine bE (cH rfl ?_)
  subst hR1
  try dsimp only[cO]
  refine Hq fun R1 hR1=>?_
  refine⟨_,rfl,_,rfl,pm,_,rfl,.inl (SqL.of gm6),rfl,_,rfl,?_⟩
  rw[length_map,decide_eq_true (show V.int ((eN q3).length:Int)=V.int ((eN q3).length:Int) from rfl)]
  obtain⟨dx6,h6⟩:=k6.self
  refine bE ⟨_,rfl,L0,dx6,_,rfl,h6,rfl,L',q4,by rw[k6.qu],k6.qw,by omega,fun ms perm pw' p19 H19 S19 hp19 d19=>?_⟩
  have em:ms=ks0:=(eA perm pw' (cq'.so.imp Int.le_of_lt)).trans (hks'.trans hks)
  rw[em,funext hlet',funext hlet]at d19
  clear em perm pw' ms
  have sh:=sQ es0 ks0
  have k7:=k6.sames S19
  refine⟨_,rfl,AH d19 (hd.same k7.same) sh.1 sh.2 ⟨_,rfl,bE ?_⟩⟩
  obtain⟨kk',ek',_⟩:=cq'.sz.keys
  refine⟨_,rfl,pn,_,_,.int q3.first,rfl,rfl,SqL.of (S19 _ _ gn6'),bZ (by decide) rfl,q3.first,rfl,f0,by omega,_,_,rfl,rfl,?_,?_⟩
  ·have:=(oZ (n:=q3.first) ⟨by omega,by omega⟩).2
   show 1+(Str.ofString (toString q3.first)).length<=sizeLine
   exact le_trans (show _<=100 by omega) (by decide)
  refine uM k7 cq'.sz (by omega) ek' rfl fun p20 sl H20 perm S20 hp20 g20=>?_
  refine⟨p20,_,rfl,.inl (SqL.of g20),rfl,wV _,_,rfl,?_⟩
  rw[if_neg (by decide),E7 _ _ (fun z=>by
   obtain⟨s,hs1,hs2⟩:=mem_map.mp z
   have hm:=jS.mp (perm.mem_iff.mp hs1)
   have top':=cq'.sz.top
   have:=jU (n:=s) (m:=q3.first) ⟨by omega,by omega⟩ ⟨by omega,by omega⟩ hs2
   omega)]
  refine bE (cH rfl ?_)
  subst hR1
  try dsimp only[cO]
  refine Gc fun R1 hR1=>?_
  have k8:=k7.sames S20
  have S8:=S19.trans S20
  refine⟨bY,fun pr hpr=>?_⟩
  have opr:=k8.off hpr
  have S9:=S8.trans (aI (o:=.lst []) hpr)
  have k9:=k8.sames (aI (o:=.lst []) hpr)
  have gr:upd H20 pr (.lst []) pr=some (.lst []):=aC
  have npm:pm≠pr:=fun z=>by rw[<- z,S8 _ _ gm6]at hpr; cases hpr
  have npm2:pm≠pw:=fun z=>by rw[z,gw6]at gm6; cases gm6
  generalize upd H20 pr (.lst [])=H21 at S9 k9 gr ⊢
  subst hR1
  try dsimp only[cO]
  refine FS fun R1 hR1=>?_
  refine walk2 k9 cq' (by omega) (S9 _ _ gw6) ow6 gr opr (by rw[hks',hks]; exact hk) fun H22 ws' vs y5 y9 k10 bt gw10 wk wl gv dv=>?_
  rw[hR]at dv
  subst hR1
  have gm10:=bt _ _ (S9 _ _ gm6) (fun z=>z.elim npm2 npm)
  refine GV (hd.same k10.same) (by omega) gm10 (by rw[<- hks]; exact DJ q3) rfl rfl fun pq xs H23 S23 hpq gq dq=>?_
  have ln:=dv.length
  rw[length_map,length_append,length_map]at ln
  refine⟨_,rfl,_,rfl,pr,_,rfl,.inl (SqL.of (S23 _ _ gv)),_,rfl,pm,_,rfl,.inl (SqL.of (S23 _ _ gm10)),_,_,rfl,rfl,_,rfl,pr,vs,rfl,SqL.of (S23 _ _ gv),fun p24 hp24=>?_⟩
  have es:iU vs (some ((vs.length:Int) - (((eN q3).map V.int).length:Int))) none=vs.drop R.length:=by
   rw[length_map,show (vs.length:Int) - ((eN q3).length:Int)=((R.length:Nat):Int) by omega]
   exact uZ (by omega)
  rw[es]
  have S24:=aI (o:=.lst (vs.drop R.length)) hp24
  have g24:upd H23 p24 (.lst (vs.drop R.length)) p24=some (.lst (vs.drop R.length)):=aC
  generalize upd H23 p24 (.lst (vs.drop R.length))=H24 at S24 g24 ⊢
  have eL:∀ k,((aM es0 k).getD ([],0,0)).1=((aM q3.B.es k).getD ([],0,0)).1/\((aM es0 k).getD ([],0,0)).2.1=((aM q3.B.es k).getD ([],0,0)).2.1:=fun k=>by
   have:=hlet k
   unfold fR vN at this
   injection this with this
   injection this with _ this
   injection this with e1 this
   injection this with e2 _
   injection e2 with e2
   have e1:=congrArg a9 e1
   rw[dP,dP]at e1
   exact⟨e1.symm,e2.symm⟩
  have eC:((eN q3).map fun k=>dZ k ((aM q3.B.es k).getD ([],0,0)))=(eN q3).map fun k=>dZ k ((aM es0 k).getD ([],0,0)):=map_congr_left fun k _=>by
   unfold dZ
   rw[(eL k).1,(eL k).2]
  have bnd:∀ k∈eN q3,((aM es0 k).getD ([],0,0)).2.1<=9/\((aM es0 k).getD ([],0,0)).1.length<=60:=fun k hk=>by
   rw[(eL k).1,(eL k).2]
   obtain⟨e,el⟩:=eO (mem_filter.mp hk).1
   obtain⟨_,_,_,_,a5,_,a7⟩:=cq.ent k e el
   rw[el]
   exact⟨a5,by show e.1.length<=60; omega⟩
  have mlen:(eN q3).length<=30:=by
   have:=length_filter_le (fun k=>decide (gT q3.B.es k=q3.first)) (q3.B.es.map (·.1))
   rw[length_map]at this
   have:=cq.cnt
   unfold eN
   omega
  refine FC (S24 _ _ gq) (dq.same S24) (by omega) bnd rfl fun p25 H25 S25 _ d25=>?_
  have sh2:=A2 (eN q3) (fun k=>(aM es0 k).getD ([],0,0))
  have dv':=xB R.length (dv.same (S23.trans (S24.trans S25)))
  rw[map_append,List.drop_append_of_le_length (by rw[length_map]; exact le_refl _),drop_of_length_le (by rw[length_map]; exact le_refl _),nil_append,eC]at dv'
  refine AH (by simp only[Den]; exact⟨p24,_,rfl,S25 _ _ g24,dv'⟩) d25 sh2.1 sh2.2 ⟨_,rfl,bE ?_⟩
  have gw11:=S25 _ _ (S24 _ _ (S23 _ _ gw10))
  refine hD' _ _ ⟨L',q4,lg',n+30,ws',_,_,_,_,_,_,_,_,_,k10.sames (S23.trans (S24.trans S25)),cq',by omega,hks'.trans hks,(fun k=>(hlet' k).trans (hlet k)),sg',gw11,ow6,by rw[wk]; exact hk,fun x hx=>?_,rfl⟩
  rw[wl x]
  rw[hks]at hwh
  exact hwh _ hw x hx
end
structure DefIn (K:PySem.W.Frag) (x:Str) (st:Stmt):Prop where
 ex:∃ (f:Addr) (oc:Value) (od:Option Addr) (kV doc pm:Value) (an:Option Addr) (cdv ct:Value) (osl:Array (Option Value)),nsIn K mainGlobals x=some (some (.ref f))/\
  K.lookup f=some ⟨oc,od,.func (fnOf x x (gR st) (fZ st) (aH st) .none kV doc pm an cdv ct),osl⟩/\codeIn K cdv x=true/\keepIn K (.ref f)=true
theorem bH {K:PySem.W.Frag} {x:Str} {st:Stmt} {f:Addr} {oc:Value} {od an:Option Addr} {osl:Array (Option Value)} {kV doc pm cdv ct:Value} (a:nsIn K mainGlobals x=some (some (.ref f)))
  (l:K.lookup f=some ⟨oc,od,.func (fnOf x x (gR st) (fZ st) (aH st) .none kV doc pm an cdv ct),osl⟩) (c:codeIn K cdv x=true) (k:keepIn K (.ref f)=true):DefIn K x st:=⟨⟨f,oc,od,kV,doc,pm,an,cdv,ct,osl,a,l,c,k⟩⟩
theorem DefIn.get {K:PySem.W.Frag} {h:Heap} {mg:Str->Option Value} {x:Str} {st:Stmt} (X:K.In h) (G:h.Ns mainGlobals mg) (D:DefIn K x st):∃ f fd,Fun K x x st f fd/\mg x=some (.ref f)/\keepIn K (.ref f)=true:=by
 obtain⟨f,oc,od,kV,doc,pm,an,cdv,ct,osl,a,l,c,k⟩:=D.ex
 exact⟨f,_,Bq l c k,mg_of X G a,k⟩
noncomputable def rR:List Str->List Value->Bool
 | [],[]=>true
 | k::ks,.str x _::vs=>decide (x=k) && rR ks vs
 | _,_=>false
theorem n5:∀ {ks:List Str} {vs:List Value},rR ks vs=true->bQ (ks.map V.str) vs
 | [],[],_=>.nil
 | k::ks,.str x t::vs,h=>by
  simp only[rR,and_eq_true,decide_eq_true_eq]at h
  obtain⟨h1,h2⟩:=h
  subst h1
  exact .cons ⟨t,rfl⟩ (n5 h2)
noncomputable def yT (K:PySem.W.Frag) (a:Addr):Bool:=match K.lookup a with
 | some ⟨.type t,none,.seq its n,_⟩=>decide (t = "tuple") && (decide (its.size<=100) && rR kinds its.toList)
 | _=>false
theorem Bh {K:PySem.W.Frag} {a:Addr} (h:yT K a=true):(∀ H,SqT K H a (kinds.map V.str))/\∃ o,K.lookup a=some o/\o.cls = .type "tuple"/\o.dict=none:=by
 unfold yT at h
 split at h
 ·next t its n sl e=>
  simp only[and_eq_true,decide_eq_true_eq]at h
  obtain⟨h1,h2,h3⟩:=h
  subst h1
  exact⟨fun H=>.inr ⟨_,its,n,e,rfl,rfl,bY h2,n5 h3⟩,_,e,rfl,rfl⟩
 ·cases h
structure MethIn (K:PySem.W.Frag) (C:Addr) (x qual:Str) (st:Stmt):Prop where
 ex:∃ (f:Addr) (oc:Value) (od:Option Addr) (kV doc pm:Value) (an:Option Addr) (cdv ct:Value) (osl:Array (Option Value)),findIn K (.ref C) x=some (some (.ref f))/\PySem.W.isFn K (.ref f)=true/\
  K.lookup f=some ⟨oc,od,.func (fnOf x qual (gR st) (fZ st) (aH st) .none kV doc pm an cdv ct),osl⟩/\codeIn K cdv qual=true/\keepIn K (.ref f)=true
theorem aU {K:PySem.W.Frag} {C:Addr} {x qual:Str} {st:Stmt} {f:Addr} {oc:Value} {od an:Option Addr} {osl:Array (Option Value)} {kV doc pm cdv ct:Value} (a:findIn K (.ref C) x=some (some (.ref f))) (i:PySem.W.isFn K (.ref f)=true)
  (l:K.lookup f=some ⟨oc,od,.func (fnOf x qual (gR st) (fZ st) (aH st) .none kV doc pm an cdv ct),osl⟩) (c:codeIn K cdv qual=true) (k:keepIn K (.ref f)=true):MethIn K C x qual st:=⟨⟨f,oc,od,kV,doc,pm,an,cdv,ct,osl,a,i,l,c,k⟩⟩
theorem MethIn.get {K:PySem.W.Frag} {C:Addr} {x qual:Str} {st:Stmt} (D:MethIn K C x qual st):∃ f fd,Fun K x qual st f fd/\findIn K (.ref C) x=some (some (.ref f))/\PySem.W.isFn K (.ref f)=true/\keepIn K (.ref f)=true:=by
 obtain⟨f,oc,od,kV,doc,pm,an,cdv,ct,osl,a,i,l,c,k⟩:=D.ex
 exact⟨f,_,Bq l c k,a,i,k⟩
theorem HX {l:PySem.W.OpenLaw} {w:World} {K:PySem.W.Frag} {h:Heap} {mg:Str->Option Value} {fa fL aa8 aa4 aa6 ab3 aa9 aa5 aa1 ah0 an1 an2 ab0 an3 aa3 aa2 aa7:Addr} (X:K.In h) (G:h.Ns mainGlobals mg) (hfa:mg "law" = some (.ref fa))
  {odL anL:Option Addr} {slL:Array (Option Value)} {ocL kVL dcL pmL cdL ctL:Value} {t0 t1 t2 t3 t4 t5 t6 t7 t8 t9 t10 t11 t12 t13 t14:Tok}
  (d_is_number:DefIn K "is_number" lY)
  (d_check_steps:DefIn K "check_steps" jE)
  (d_is_bytes:DefIn K "is_bytes" nO)
  (d_row_end:DefIn K "row_end" pT)
  (d_fits_kind:DefIn K "fits_kind" lZ)
  (d_is_row:DefIn K "is_row" tI)
  (d_checks_of:DefIn K "checks_of" l6)
  (d_row_from:DefIn K "row_from" nN)
  (d_rows_in:DefIn K "rows_in" pS)
  (d_is_word:DefIn K "is_word" qB)
  (d_check_name:DefIn K "check_name" kU)
  (d_check_body:DefIn K "check_body" kY)
  (d_segment_name:DefIn K "segment_name" iO)
  (d_row_bytes:DefIn K "row_bytes" lV)
  (d_segment_of:DefIn K "segment_of" oM)
  (d_segments_on:DefIn K "segments_on" jD)
  (d_without_last_parts:DefIn K "without_last_parts" pR)
  (d_make_good:DefIn K "make_good" lX)
  (d_check_hand:DefIn K "check_hand" kW)
  (d__law_cell:DefIn K "_law_cell" BC)
  (d__law_mix:DefIn K "_law_mix" EE)
  (d__law_seed:DefIn K "_law_seed" A6)
  (d__law_pick:DefIn K "_law_pick" A8)
  (d_check_settings:DefIn K "check_settings" gG)
  (d_rows_of:DefIn K "rows_of" v8)
  (d_book_of:DefIn K "book_of" qC)
  (d__law_queue:DefIn K "_law_queue" tG)
  (bo3:nsIn K mainGlobals "Disk" = some (some (.ref aa3))) (av2:plainGet K aa3 Str.empty=true) (av3:hasDictIn K aa3=true) (av4:PySem.W.plainOver K aa3=true) (av5:findIn K (.ref aa3) "__setattr__" = some (some (.builtin "object.__setattr__"))) (bk6:PySem.W.makesIn K aa3=true) (bk7:keepIn K (.ref aa3)=true)
  (an6:findIn K (.ref aa3) "files" = some none)
  (ah6:findIn K (.ref aa3) "steps_done" = some none)
  (ag9:findIn K (.ref aa3) "steps_ahead" = some none)
  (e_Disk___init__:MethIn K aa3 "__init__" "Disk.__init__" yC)
  (e_Disk_names:MethIn K aa3 "names" "Disk.names" yA)
  (e_Disk_check_file:MethIn K aa3 "check_file" "Disk.check_file" kX)
  (e_Disk_read:MethIn K aa3 "read" "Disk.read" A7)
  (e_Disk_size:MethIn K aa3 "size" "Disk.size" A5)
  (e_Disk_count_step:MethIn K aa3 "count_step" "Disk.count_step" kT)
  (e_Disk_make:MethIn K aa3 "make" "Disk.make" A9)
  (e_Disk_drop:MethIn K aa3 "drop" "Disk.drop" BB)
  (e_Disk_cut:MethIn K aa3 "cut" "Disk.cut" Gq)
  (e_Disk_add:MethIn K aa3 "add" "Disk.add" EF)
  (bo4:nsIn K mainGlobals "Book" = some (some (.ref aa2))) (av6:plainGet K aa2 Str.empty=true) (av7:hasDictIn K aa2=true) (av8:PySem.W.plainOver K aa2=true) (av9:findIn K (.ref aa2) "__setattr__" = some (some (.builtin "object.__setattr__"))) (bk8:PySem.W.makesIn K aa2=true) (bk9:keepIn K (.ref aa2)=true)
  (al1:findIn K (.ref aa2) "entries" = some none)
  (ag4:findIn K (.ref aa2) "upcoming" = some none)
  (an7:findIn K (.ref aa2) "parts" = some none)
  (e_Book_letter:MethIn K aa2 "letter" "Book.letter" tH)
  (e_Book_letters:MethIn K aa2 "letters" "Book.letters" qA)
  (e_Book_enter_put:MethIn K aa2 "enter_put" "Book.enter_put" l4)
  (e_Book_enter_deal:MethIn K aa2 "enter_deal" "Book.enter_deal" kS)
  (e_Book_change_entry:MethIn K aa2 "change_entry" "Book.change_entry" tJ)
  (e_Book_enter:MethIn K aa2 "enter" "Book.enter" yB)
  (e_Book_numbers_in:MethIn K aa2 "numbers_in" "Book.numbers_in" l7)
  (e_Book___init__:MethIn K aa2 "__init__" "Book.__init__" BA)
  (bl0:nsIn K mainGlobals "Queue" = some (some (.ref aa7))) (bd1:plainGet K aa7 Str.empty=true) (bd2:hasDictIn K aa7=true) (bd3:PySem.W.plainOver K aa7=true) (bd4:findIn K (.ref aa7) "__setattr__" = some (some (.builtin "object.__setattr__"))) (bd5:PySem.W.makesIn K aa7=true) (bd6:keepIn K (.ref aa7)=true)
  (an8:findIn K (.ref aa7) "disk" = some none)
  (an9:findIn K (.ref aa7) "most" = some none)
  (ao0:findIn K (.ref aa7) "hold" = some none)
  (am7:findIn K (.ref aa7) "tries" = some none)
  (ao1:findIn K (.ref aa7) "book" = some none)
  (am8:findIn K (.ref aa7) "first" = some none)
  (ao2:findIn K (.ref aa7) "last" = some none)
  (aj5:findIn K (.ref aa7) "writing" = some none)
  (aj6:findIn K (.ref aa7) "holders" = some none)
  (ap6:findIn K (.ref aa7) "now" = some none)
  (e_Queue_letters:MethIn K aa7 "letters" "Queue.letters" lW)
  (e_Queue_is_last_full:MethIn K aa7 "is_last_full" "Queue.is_last_full" tD)
  (e_Queue_begin_segment:MethIn K aa7 "begin_segment" "Queue.begin_segment" pZ)
  (e_Queue_write:MethIn K aa7 "write" "Queue.write" pU)
  (e_Queue_put:MethIn K aa7 "put" "Queue.put" x9)
  (e_Queue_free_letters:MethIn K aa7 "free_letters" "Queue.free_letters" tE)
  (e_Queue_ready:MethIn K aa7 "ready" "Queue.ready" pV)
  (e_Queue_take:MethIn K aa7 "take" "Queue.take" sY)
  (e_Queue_check_held:MethIn K aa7 "check_held" "Queue.check_held" pX)
  (e_Queue_done:MethIn K aa7 "done" "Queue.done" tF)
  (e_Queue_drop_first:MethIn K aa7 "drop_first" "Queue.drop_first" pW)
  (e_Queue_carry:MethIn K aa7 "carry" "Queue.carry" pY)
  (e_Queue___init__:MethIn K aa7 "__init__" "Queue.__init__" sZ)
  (aL:nsIn K mainGlobals "law" = some (some (.ref fL))) (lL:K.lookup fL=some ⟨ocL,odL,.func (fnOf "law" "law" (gR oN) (fZ oN) (aH oN) .none kVL dcL pmL anL cdL ctL),slL⟩) (cL:codeIn K cdL "law" = true) (kL:keepIn K (.ref fL)=true)
  (as4:nsIn K mainGlobals "len" = some none)
  (ae1:nsIn K mainGlobals "isinstance" = some none)
  (bc0:nsIn K mainGlobals "all" = some none)
  (as5:nsIn K mainGlobals "sum" = some none)
  (al2:nsIn K mainGlobals "tuple" = some none)
  (as6:nsIn K mainGlobals "int" = some none)
  (as7:nsIn K mainGlobals "bool" = some none)
  (bc1:nsIn K mainGlobals "str" = some none)
  (al3:nsIn K mainGlobals "range" = some none)
  (ae9:nsIn K mainGlobals "enumerate" = some none)
  (ao3:nsIn K mainGlobals "list" = some none)
  (bu6:nsIn K mainGlobals "max" = some none)
  (bu7:nsIn K mainGlobals "min" = some none)
  (am1:nsIn K mainGlobals "sorted" = some none)
  (ae5:nsIn K mainGlobals "HIGHEST_BYTE" = some (some (.int 255 t0)))
  (ad1:nsIn K mainGlobals "HIGHEST_NUMBER" = some (some (.int 999999 t1)))
  (ag7:nsIn K mainGlobals "LONGEST_BODY" = some (some (.int 60 t2)))
  (ad6:nsIn K mainGlobals "HIGHEST_TIMES" = some (some (.int 9 t3)))
  (ae6:nsIn K mainGlobals "LARGEST_DEAL" = some (some (.int 9 t4)))
  (am9:nsIn K mainGlobals "CHECKS_SIZE" = some (some (.int 2 t5)))
  (ap7:nsIn K mainGlobals "HEAD_SIZE" = some (some (.int 7 t6)))
  (al4:nsIn K mainGlobals "LARGEST_MOST" = some (some (.int 2000 t7)))
  (al5:nsIn K mainGlobals "LONGEST_HOLD" = some (some (.int 99 t8)))
  (aj7:nsIn K mainGlobals "HIGHEST_TRIES" = some (some (.int 9 t9)))
  (al6:nsIn K mainGlobals "LONGEST_HAND" = some (some (.int 6 t10)))
  (al7:nsIn K mainGlobals "LONGEST_NAME" = some (some (.int 8 t11)))
  (ao4:nsIn K mainGlobals "MOST_STEPS" = some (some (.int 100000 t12)))
  (ao5:nsIn K mainGlobals "NAME_SIGNS" = some (some (.str cC t13)))
  (ao6:nsIn K mainGlobals "HAND_SIGNS" = some (some (.str "abcdefghijklmnopqrstuvwxyz" t14)))
  (aK:nsIn K mainGlobals "KINDS" = some (some (.ref aa8))) (qK:yT K aa8=true)
  (ax2:nsIn K mainGlobals "BadName" = some (some (.ref aa4))) (ai9:cU K aa4=true)
  (ax3:nsIn K mainGlobals "Missing" = some (some (.ref aa6))) (aj0:cU K aa6=true)
  (bl1:nsIn K mainGlobals "There" = some (some (.ref ab3))) (ap1:cU K ab3=true)
  (ax4:nsIn K mainGlobals "Stopped" = some (some (.ref aa9))) (aj1:cU K aa9=true)
  (am2:nsIn K mainGlobals "Broken" = some (some (.ref aa5))) (ad7:cU K aa5=true)
  (am3:nsIn K mainGlobals "BadRow" = some (some (.ref aa1))) (af2:cU K aa1=true)
  (an0:nsIn K mainGlobals "BadSettings" = some (some (.ref ah0))) (af0:cU K ah0=true)
  (ax5:nsIn K mainGlobals "BadBody" = some (some (.ref an1))) (aj2:cU K an1=true)
  (ax6:nsIn K mainGlobals "BadHand" = some (some (.ref an2))) (aj3:cU K an2=true)
  (ak3:nsIn K mainGlobals "BadNumber" = some (some (.ref ab0))) (ad3:cU K ab0=true)
  (ax7:nsIn K mainGlobals "NotHeld" = some (some (.ref an3))) (ag8:cU K an3=true)
  : ∃ fd:FuncData,(∀ (s:Shared) (v:Value),BindsTo s fd ⟨[v],[]⟩ [("_law_script",v)])/\∀ base:Heap,K.In base->base.Ns mainGlobals mg->FnOk l.prog w K mg base (CXE l.prog w) 11 fa fd ["_law_script"] (xQ K):=by
 have e:=hfa.symm.trans (mg_of X G aL)
 cases e
 obtain⟨kk1,kk2⟩:=Bh qK
 have TK:TxtK K mg aa8 aa1 aa5 aa2:=⟨⟨mg_none_of X G as4,mg_none_of X G ae1,mg_none_of X G bc0,mg_none_of X G as5,mg_none_of X G al2,mg_none_of X G as6,mg_none_of X G as7,mg_none_of X G bc1,mg_none_of X G al3,mg_none_of X G ae9,⟨_,mg_of X G ae5⟩,⟨_,mg_of X G ad1⟩,⟨_,mg_of X G ag7⟩,⟨_,mg_of X G ad6⟩,⟨_,mg_of X G ae6⟩,mg_of X G aK,kk1,kk2,af2,mg_of X G am3⟩,mg_none_of X G ao3,mg_none_of X G bu6,mg_none_of X G am1,ad7,mg_of X G am2,⟨av6,av7,av8,av9⟩,al1,ag4,an7⟩
 have TB:TxtB K mg aa8 aa1 aa5:=⟨⟨mg_none_of X G as4,mg_none_of X G ae1,mg_none_of X G bc0,mg_none_of X G as5,mg_none_of X G al2,mg_none_of X G as6,mg_none_of X G as7,mg_none_of X G bc1,mg_none_of X G al3,mg_none_of X G ae9,⟨_,mg_of X G ae5⟩,⟨_,mg_of X G ad1⟩,⟨_,mg_of X G ag7⟩,⟨_,mg_of X G ad6⟩,⟨_,mg_of X G ae6⟩,mg_of X G aK,kk1,kk2,af2,mg_of X G am3⟩,mg_none_of X G ao3,⟨_,mg_of X G am9⟩,⟨_,mg_of X G ap7⟩,ad7,mg_of X G am2⟩
 have TD:TxtD K mg aa4 aa6 ab3 aa9 aa1 ab0 aa3:=⟨⟨mg_none_of X G as4,mg_none_of X G ae1,mg_none_of X G bc0,mg_none_of X G as5,mg_none_of X G al2,mg_none_of X G as6,mg_none_of X G as7,mg_none_of X G bc1,mg_none_of X G al3,mg_none_of X G ae9,mg_none_of X G ao3,mg_none_of X G am1,⟨_,mg_of X G ae5⟩⟩,⟨_,mg_of X G ao5⟩,⟨_,mg_of X G al7⟩,⟨_,mg_of X G ao4⟩,ai9,mg_of X G ax2,aj0,mg_of X G ax3,ap1,mg_of X G bl1,aj1,mg_of X G ax4,af2,mg_of X G am3,ad3,mg_of X G ak3,⟨av2,av3,av4,av5⟩,an6,ah6,ag9⟩
 have TQ:TxtQ K mg ‹12›:=⟨mg_none_of X G as4,mg_none_of X G as6,mg_none_of X G am1,mg_none_of X G as5,ad7,mg_of X G am2,⟨av6,av7,av8,av9⟩,⟨av2,av3,av4,av5⟩,⟨bd1,bd2,bd3,bd4⟩,mg_none_of X G bu7,⟨_,mg_of X G al4⟩,⟨_,mg_of X G al5⟩,⟨_,mg_of X G aj7⟩,⟨_,mg_of X G ao6⟩,⟨_,mg_of X G al6⟩,⟨_,mg_of X G ad1⟩,⟨_,mg_of X G ad6⟩,af0,mg_of X G an0,aj2,mg_of X G ax5,aj3,mg_of X G ax6,ag8,mg_of X G ax7,ag4,an8,an9,ao0,am7,ao1,am8,ao2,aj5,aj6,ap6,mg_none_of X G ae1,mg_none_of X G al2,mg_none_of X G ae9,mg_none_of X G al3,mg_none_of X G ao3,⟨_,mg_of X G ae6⟩,ad3,mg_of X G ak3⟩
 obtain⟨bg7,bd7,F_is_number,bg8,bg9⟩:=d_is_number.get X G
 obtain⟨ay3,aw0,F_check_steps,ay4,ay5⟩:=d_check_steps.get X G
 obtain⟨bl3,bh0,F_is_bytes,bl4,bl5⟩:=d_is_bytes.get X G
 obtain⟨bo5,bl6,F_row_end,bo6,bo7⟩:=d_row_end.get X G
 obtain⟨bh1,bd8,F_fits_kind,bh2,bh3⟩:=d_fits_kind.get X G
 obtain⟨br1,bo8,F_is_row,br2,br3⟩:=d_is_row.get X G
 obtain⟨bh4,bd9,F_checks_of,bh5,bh6⟩:=d_checks_of.get X G
 obtain⟨bl7,bh7,F_row_from,bl8,bl9⟩:=d_row_from.get X G
 obtain⟨bo9,bm0,F_rows_in,bp0,bp1⟩:=d_rows_in.get X G
 obtain⟨bp2,bm1,F_is_word,bp3,bp4⟩:=d_is_word.get X G
 obtain⟨be0,ay6,F_check_name,be1,be2⟩:=d_check_name.get X G
 obtain⟨be3,ay7,F_check_body,be4,be5⟩:=d_check_body.get X G
 obtain⟨aw1,as8,F_segment_name,aw2,aw3⟩:=d_segment_name.get X G
 obtain⟨bh8,be6,F_row_bytes,bh9,bi0⟩:=d_row_bytes.get X G
 obtain⟨be7,ay8,F_segment_of,be8,be9⟩:=d_segment_of.get X G
 obtain⟨ay9,aw4,F_segments_on,az0,az1⟩:=d_segments_on.get X G
 obtain⟨am4,al8,F_without_last_parts,am5,am6⟩:=d_without_last_parts.get X G
 obtain⟨bi1,bf0,F_make_good,bi2,bi3⟩:=d_make_good.get X G
 obtain⟨bf1,az2,F_check_hand,bf2,bf3⟩:=d_check_hand.get X G
 obtain⟨bi4,bf4,F__law_cell,bi5,bi6⟩:=d__law_cell.get X G
 obtain⟨bm2,bi7,F__law_mix,bm3,bm4⟩:=d__law_mix.get X G
 obtain⟨bi8,bf5,F__law_seed,bi9,bj0⟩:=d__law_seed.get X G
 obtain⟨bj1,bf6,F__law_pick,bj2,bj3⟩:=d__law_pick.get X G
 obtain⟨aq2,ap2,F_check_settings,aq3,aq4⟩:=d_check_settings.get X G
 obtain⟨bp5,bm5,F_rows_of,bp6,bp7⟩:=d_rows_of.get X G
 obtain⟨bp8,bm6,F_book_of,bp9,bq0⟩:=d_book_of.get X G
 obtain⟨bf7,az3,F__law_queue,bf8,bf9⟩:=d__law_queue.get X G
 obtain⟨bj4,bg0,F_D__init__,bj5,bj6,by9⟩:=e_Disk___init__.get
 obtain⟨br4,bq1,F_Dnames,br5,br6,br7⟩:=e_Disk_names.get
 obtain⟨az4,aw5,F_Dcheck_file,az5,az6,az7⟩:=e_Disk_check_file.get
 obtain⟨bu9,br8,F_Dread,bv0,bv1,bv2⟩:=e_Disk_read.get
 obtain⟨bv3,br9,F_Dsize,bv4,bv5,bv6⟩:=e_Disk_size.get
 obtain⟨az8,aw6,F_Dcount_step,az9,ba0,ba1⟩:=e_Disk_count_step.get
 obtain⟨bv7,bs0,F_Dmake,bv8,bv9,bw0⟩:=e_Disk_make.get
 obtain⟨bw1,bs1,F_Ddrop,bw2,bw3,bw4⟩:=e_Disk_drop.get
 obtain⟨bx7,bw5,F_Dcut,bx8,bx9,by0⟩:=e_Disk_cut.get
 obtain⟨by1,bw6,F_Dadd,by2,by3,by4⟩:=e_Disk_add.get
 obtain⟨bq2,bm7,F_Bletter,bq3,bq4,bq5⟩:=e_Book_letter.get
 obtain⟨bm8,bj7,F_Bletters,bm9,bn0,bn1⟩:=e_Book_letters.get
 obtain⟨bg1,ba2,F_Benter_put,bg2,bg3,bg4⟩:=e_Book_enter_put.get
 obtain⟨ba3,aw7,F_Benter_deal,ba4,ba5,ba6⟩:=e_Book_enter_deal.get
 obtain⟨as9,aq5,F_Bchange_entry,at1,at2,at3⟩:=e_Book_change_entry.get
 obtain⟨bs3,bq6,F_Benter,bs4,bs5,bs6⟩:=e_Book_enter.get
 obtain⟨ba7,aw8,F_Bnumbers_in,ba8,ba9,bb0⟩:=e_Book_numbers_in.get
 obtain⟨bj8,bg5,F_B__init__,bj9,bk0,bz0⟩:=e_Book___init__.get
 obtain⟨bn2,bk1,F_Qletters,bn3,bn4,bn5⟩:=e_Queue_letters.get
 obtain⟨at4,aq6,F_Qis_last_full,at5,at6,at7⟩:=e_Queue_is_last_full.get
 obtain⟨aq7,ap3,F_Qbegin_segment,aq8,aq9,ar0⟩:=e_Queue_begin_segment.get
 obtain⟨bs7,bq7,F_Qwrite,bs8,bs9,bt0⟩:=e_Queue_write.get
 obtain⟨by5,bw7,F_Qput,by6,by7,by8⟩:=e_Queue_put.get
 obtain⟨at8,ar3,F_Qfree_letters,at9,au0,au1⟩:=e_Queue_free_letters.get
 obtain⟨bt1,bq8,F_Qready,bt2,bt3,bt4⟩:=e_Queue_ready.get
 obtain⟨bw8,bt5,F_Qtake,bw9,bx0,bx1⟩:=e_Queue_take.get
 obtain⟨bb1,aw9,F_Qcheck_held,bb2,bb3,bb4⟩:=e_Queue_check_held.get
 obtain⟨bx2,bt7,F_Qdone,bx3,bx4,bx5⟩:=e_Queue_done.get
 obtain⟨bb5,ax0,F_Qdrop_first,bb6,bb7,bb8⟩:=e_Queue_drop_first.get
 obtain⟨bu0,bq9,F_Qcarry,bu1,bu2,bu3⟩:=e_Queue_carry.get
 obtain⟨bk2,bg6,F_Q__init__,bk3,bk4,bz1⟩:=e_Queue___init__.get
 refine⟨fnOf "law" "law" (gR oN) (fZ oN) (aH oN) .none kVL dcL pmL anL cdL ctL,fun s v=>.of_eq rfl,fun base _ _=>?_⟩
 have ab2:(Callee l.prog w K mg base) "is_number" 1 ["thing","least","most"] kP:=⟨bg7,bd7,yN F_is_number TK.toTxtR,bg8,bg9,F_is_number.binds (ps:=["thing","least","most"]) (fun _ _ _ _ _ _=>uS3 fun _ _ _=>rfl)⟩
 have ah1:(Callee l.prog w K mg base) "check_steps" 2 ["steps"] (iM ab0):=⟨ay3,aw0,tY F_check_steps TD ab2,ay4,ay5,F_check_steps.binds (ps:=["steps"]) ‹13›⟩
 have bc9:Maker l.prog w K mg base "Disk" aa3 3 ["self","steps"] (sL aa3 ab0):=⟨bj4,bg0,Er F_D__init__ TD ah1,⟨bk6,bj5,bj6,bk7⟩,mg_of X G bo3,F_D__init__.binds (ps:=["self","steps"]) (fun _ _ _ _ _ _=>uS2 fun _ _=>rfl)⟩
 have ac1:(Callee l.prog w K mg base) "is_bytes" 2 ["thing"] gS:=⟨bl3,bh0,AD F_is_bytes TK.toTxtR ab2,bl4,bl5,F_is_bytes.binds (ps:=["thing"]) ‹13›⟩
 have ai8:(Callee l.prog w K mg base) "row_end" 1 ["some","start"] nD:=⟨bo5,bl6,BO F_row_end TB,bo6,bo7,F_row_end.binds (ps:=["some","start"]) (fun _ _ _ _ _ _=>uS2 fun _ _=>rfl)⟩
 have aj9:(Callee l.prog w K mg base) "fits_kind" 1 ["kind","body"] kQ:=⟨bh1,bd8,yO F_fits_kind TK.toTxtR,bh2,bh3,F_fits_kind.binds (ps:=["kind","body"]) (fun _ _ _ _ _ _=>uS2 fun _ _=>rfl)⟩
 have ac8:(Callee l.prog w K mg base) "is_row" 3 ["thing"] jN:=⟨br1,bo8,DF F_is_row TK.toTxtR ab2 ac1 aj9,br2,br3,F_is_row.binds (ps:=["thing"]) ‹13›⟩
 have ad2:(Callee l.prog w K mg base) "checks_of" 1 ["behind"] hZ:=⟨bh4,bd9,yQ F_checks_of TK.toTxtR,bh5,bh6,F_checks_of.binds (ps:=["behind"]) ‹13›⟩
 have al9:(Callee l.prog w K mg base) "row_from" 4 ["whole"] (lR aa5):=⟨bl7,bh7,AC F_row_from TB ac8 ad2,bl8,bl9,F_row_from.binds (ps:=["whole"]) ‹13›⟩
 have ae0:(Callee l.prog w K mg base) "rows_in" 5 ["some"] (d8 aa1 aa5):=⟨bo9,bm0,BN F_rows_in TB ac1 ai8 al9,bp0,bp1,F_rows_in.binds (ps:=["some"]) ‹13›⟩
 have af3:(Method l.prog w K mg base) aa3 "names" 1 ["self"] (fA aa3):=⟨br4,bq1,En F_Dnames TD,⟨br5,br6,br7⟩,F_Dnames.binds (ps:=["self"]) ‹13›⟩
 have af7:(Callee l.prog w K mg base) "is_word" 1 ["thing","signs","longest"] kO:=⟨bp2,bm1,BX F_is_word TD.toTxtN,bp3,bp4,F_is_word.binds (ps:=["thing","signs","longest"]) (fun _ _ _ _ _ _=>uS3 fun _ _ _=>rfl)⟩
 have ac5:(Callee l.prog w K mg base) "check_name" 2 ["name"] (gK aa4):=⟨be0,ay6,vJ F_check_name TD af7,be1,be2,F_check_name.binds (ps:=["name"]) ‹13›⟩
 have af1:(Method l.prog w K mg base) aa3 "check_file" 3 ["self","name"] (jA aa3 aa4 aa6):=⟨az4,aw5,vL F_Dcheck_file TD ac5,⟨az5,az6,az7⟩,F_Dcheck_file.binds (ps:=["self","name"]) (fun _ _ _ _ _ _=>uS2 fun _ _=>rfl)⟩
 have ag6:(Method l.prog w K mg base) aa3 "read" 4 ["self","name"] (iW aa3 aa4 aa6):=⟨bu9,br8,GD F_Dread TD af1,⟨bv0,bv1,bv2⟩,F_Dread.binds (ps:=["self","name"]) (fun _ _ _ _ _ _=>uS2 fun _ _=>rfl)⟩
 have ad9:(Method l.prog w K mg base) aa2 "letter" 1 ["self","number"] (jM aa2):=⟨bq2,bm7,DE F_Bletter TK,⟨bq3,bq4,bq5⟩,F_Bletter.binds (ps:=["self","number"]) (fun _ _ _ _ _ _=>uS2 fun _ _=>rfl)⟩
 have ae4:(Method l.prog w K mg base) aa2 "letters" 2 ["self"] (kN aa2):=⟨bm8,bj7,BW F_Bletters TK ad9,⟨bm9,bn0,bn1⟩,F_Bletters.binds (ps:=["self"]) ‹13›⟩
 have ag3:(Method l.prog w K mg base) aa7 "letters" 3 ["self"] (kM ‹12›):=⟨bn2,bk1,yM F_Qletters TQ ae4,⟨bn3,bn4,bn5⟩,F_Qletters.binds (ps:=["self"]) ‹13›⟩
 have ai4:(Callee l.prog w K mg base) "check_body" 4 ["body"] (jB ‹12›):=⟨be3,ay7,vM F_check_body TQ ac8,be4,be5,F_check_body.binds (ps:=["body"]) ‹13›⟩
 have ab1:(Callee l.prog w K mg base) "segment_name" 1 ["segment"] hU:=⟨aw1,as8,rK F_segment_name ,aw2,aw3,F_segment_name.binds (ps:=["segment"]) ‹13›⟩
 have ab4:(Callee l.prog w K mg base) "row_bytes" 4 ["row"] (eR aa1):=⟨bh8,be6,yL F_row_bytes TK.toTxtR ac8 ad2,bh9,bi0,F_row_bytes.binds (ps:=["row"]) ‹13›⟩
 have ai5:(Callee l.prog w K mg base) "segment_of" 2 ["name"] spF:=⟨be7,ay8,tX F_segment_of ,be8,be9,F_segment_of.binds (ps:=["name"]) ‹13›⟩
 have ac4:(Callee l.prog w K mg base) "segments_on" 3 ["disk"] (oA ‹12›):=⟨ay9,aw4,rJ F_segments_on TQ ai5 af3,az0,az1,F_segments_on.binds (ps:=["disk"]) ‹13›⟩
 have ad0:(Callee l.prog w K mg base) "without_last_parts" 1 ["rows"] lQ:=⟨am4,al8,AA F_without_last_parts TQ,am5,am6,F_without_last_parts.binds (ps:=["rows"]) ‹13›⟩
 have ah8:(Method l.prog w K mg base) aa3 "size" 4 ["self","name"] (n8 aa3 aa4 aa6):=⟨bv3,br9,GB F_Dsize TD af1,⟨bv4,bv5,bv6⟩,F_Dsize.binds (ps:=["self","name"]) (fun _ _ _ _ _ _=>uS2 fun _ _=>rfl)⟩
 have ah5:(Method l.prog w K mg base) aa3 "count_step" 1 ["self"] (fB aa3 aa9):=⟨az8,aw6,vI F_Dcount_step TD,⟨az9,ba0,ba1⟩,F_Dcount_step.binds (ps:=["self"]) ‹13›⟩
 have ah9:(Method l.prog w K mg base) aa3 "make" 3 ["self","name"] (oB aa3 aa4 ab3 aa9):=⟨bv7,bs0,GF F_Dmake TD ac5 ah5,⟨bv8,bv9,bw0⟩,F_Dmake.binds (ps:=["self","name"]) (fun _ _ _ _ _ _=>uS2 fun _ _=>rfl)⟩
 have ai0:(Method l.prog w K mg base) aa3 "drop" 4 ["self","name"] (oF aa3 aa4 aa6 aa9):=⟨bw1,bs1,GH F_Ddrop TD af1 ah5,⟨bw2,bw3,bw4⟩,F_Ddrop.binds (ps:=["self","name"]) (fun _ _ _ _ _ _=>uS2 fun _ _=>rfl)⟩
 have bc8:(Method l.prog w K mg base) aa3 "cut" 4 ["self","name","size"] spF:=⟨bx7,bw5,GI F_Dcut ,⟨bx8,bx9,by0⟩,F_Dcut.binds (ps:=["self","name","size"]) (fun _ _ _ _ _ _=>uS3 fun _ _ _=>rfl)⟩
 have ag1:(Method l.prog w K mg base) aa3 "add" 4 ["self","name","some"] (pK aa3 aa4 aa6 aa1 aa9):=⟨by1,bw6,HS F_Dadd TD ac1 af1 ah5,⟨by2,by3,by4⟩,F_Dadd.binds (ps:=["self","name","some"]) (fun _ _ _ _ _ _=>uS3 fun _ _ _=>rfl)⟩
 have ad5:(Callee l.prog w K mg base) "make_good" 6 ["disk"] (sK ‹12›):=⟨bi1,bf0,Eo F_make_good TQ ab1 ac4 ae0 ad0 ab4 ag6 ah8 ah9 ai0 bc8 ag1,bi2,bi3,F_make_good.binds (ps:=["disk"]) ‹13›⟩
 have ao7:(Method l.prog w K mg base) aa2 "enter_put" 1 ["self","number","body","segment"] (hX aa2 aa5):=⟨bg1,ba2,yP F_Benter_put TK,⟨bg2,bg3,bg4⟩,F_Benter_put.binds (ps:=["self","number","body","segment"]) fun _ _ _ _ _ _=>uS4 fun _ _ _ _=>rfl⟩
 have bb9:(Method l.prog w K mg base) aa2 "enter_deal" 2 ["self","number","many","segment"] (i9 aa2 aa5):=⟨ba3,aw7,vH F_Benter_deal TK ao7,⟨ba4,ba5,ba6⟩,F_Benter_deal.binds (ps:=["self","number","many","segment"]) fun _ _ _ _ _ _=>uS4 fun _ _ _ _=>rfl⟩
 have au2:(Method l.prog w K mg base) aa2 "change_entry" 1 ["self","kind","number"] (pJ aa2):=⟨as9,aq5,DG F_Bchange_entry TK,⟨at1,at2,at3⟩,F_Bchange_entry.binds (ps:=["self","kind","number"]) (fun _ _ _ _ _ _=>uS3 fun _ _ _=>rfl)⟩
 have ag5:(Method l.prog w K mg base) aa2 "enter" 3 ["self","row","segment"] (oE aa2 aa5):=⟨bs3,bq6,Ep F_Benter TK ao7 bb9 au2,⟨bs4,bs5,bs6⟩,F_Benter.binds (ps:=["self","row","segment"]) (fun _ _ _ _ _ _=>uS3 fun _ _ _=>rfl)⟩
 have ag2:(Method l.prog w K mg base) aa7 "is_last_full" 5 ["self"] (pG ‹12›):=⟨at4,aq6,DA F_Qis_last_full TQ ab1 ah8,⟨at5,at6,at7⟩,F_Qis_last_full.binds (ps:=["self"]) ‹13›⟩
 have af5:(Method l.prog w K mg base) aa7 "begin_segment" 5 ["self"] (nG ‹12›):=⟨aq7,ap3,BV F_Qbegin_segment TQ ab1 ab4 ah9 ag1,⟨aq8,aq9,ar0⟩,F_Qbegin_segment.binds (ps:=["self"]) ‹13›⟩
 have ab9:(Method l.prog w K mg base) aa7 "write" 7 ["self","rows"] (gC ‹12›):=⟨bs7,bq7,BP F_Qwrite TQ ab1 ab4 ad5 ag1 ag5 ag2 af5,⟨bs8,bs9,bt0⟩,F_Qwrite.binds (ps:=["self","rows"]) (fun _ _ _ _ _ _=>uS2 fun _ _=>rfl)⟩
 have bd0:(Method l.prog w K mg base) aa7 "put" 8 ["self","body"] (lS ‹12›):=⟨by5,bw7,Em F_Qput TQ ai4 ab9,⟨by6,by7,by8⟩,F_Qput.binds (ps:=["self","body"]) (fun _ _ _ _ _ _=>uS2 fun _ _=>rfl)⟩
 have ac6:(Callee l.prog w K mg base) "check_hand" 2 ["hand"] (gM ‹12›):=⟨bf1,az2,vK F_check_hand TQ af7,bf2,bf3,F_check_hand.binds (ps:=["hand"]) ‹13›⟩
 have ag0:(Method l.prog w K mg base) aa7 "free_letters" 3 ["self"] (pH ‹12›):=⟨at8,ar3,DB F_Qfree_letters TQ ae4,⟨at9,au0,au1⟩,F_Qfree_letters.binds (ps:=["self"]) ‹13›⟩
 have aq0:(Method l.prog w K mg base) aa7 "ready" 4 ["self"] (pF ‹12› ltB):=⟨bt1,bq8,BQ F_Qready TQ ag0,⟨bt2,bt3,bt4⟩,F_Qready.binds (ps:=["self"]) ‹13›⟩
 have av0:(Method l.prog w K mg base) aa7 "take" 8 ["self","hand"] (jJ ‹12›):=⟨bw8,bt5,C9 F_Qtake TQ ac6 ad9 aq0 ab9,⟨bw9,bx0,bx1⟩,F_Qtake.binds (ps:=["self","hand"]) (fun _ _ _ _ _ _=>uS2 fun _ _=>rfl)⟩
 have ah2:(Method l.prog w K mg base) aa7 "check_held" 3 ["self","hand","number"] (nF ‹12›):=⟨bb1,aw9,BT F_Qcheck_held TQ ab2 ac6,⟨bb2,bb3,bb4⟩,F_Qcheck_held.binds (ps:=["self","hand","number"]) (fun _ _ _ _ _ _=>uS3 fun _ _ _=>rfl)⟩
 have av1:(Method l.prog w K mg base) aa7 "done" 8 ["self","hand","number"] (jK ‹12›):=⟨bx2,bt7,DC F_Qdone TQ ah2 ab9,⟨bx3,bx4,bx5⟩,F_Qdone.binds (ps:=["self","hand","number"]) (fun _ _ _ _ _ _=>uS3 fun _ _ _=>rfl)⟩
 have ah3:(Method l.prog w K mg base) aa2 "numbers_in" 1 ["self","segment"] (nI aa2):=⟨ba7,aw8,yR F_Bnumbers_in TK,⟨ba8,ba9,bb0⟩,F_Bnumbers_in.binds (ps:=["self","segment"]) (fun _ _ _ _ _ _=>uS2 fun _ _=>rfl)⟩
 have ah4:(Method l.prog w K mg base) aa7 "drop_first" 5 ["self"] (nE ‹12›):=⟨bb5,ax0,BS F_Qdrop_first TQ ab1 ai0,⟨bb6,bb7,bb8⟩,F_Qdrop_first.binds (ps:=["self"]) ‹13›⟩
 have aq1:(Method l.prog w K mg base) aa7 "carry" 8 ["self"] (iK ‹12›):=⟨bu0,bq9,BU F_Qcarry TQ ah3 ad9 ah4 ab9,⟨bu1,bu2,bu3⟩,F_Qcarry.binds (ps:=["self"]) ‹13›⟩
 have ae7:(Callee l.prog w K mg base) "_law_cell" 1 ["_law_script","_law_k"] (xS K):=⟨bi4,bf4,GJ F__law_cell TQ,bi5,bi6,F__law_cell.binds (ps:=["_law_script","_law_k"]) (fun _ _ _ _ _ _=>uS2 fun _ _=>rfl)⟩
 have am0:(Callee l.prog w K mg base) "_law_mix" 1 ["_law_cell_here","_law_prime","_law_many"] Az:=⟨bm2,bi7,HQ F__law_mix ,bm3,bm4,F__law_mix.binds (ps:=["_law_cell_here","_law_prime","_law_many"]) (fun _ _ _ _ _ _=>uS3 fun _ _ _=>rfl)⟩
 have ak1:(Callee l.prog w K mg base) "_law_seed" 1 ["_law_seed_here","_law_k"] xO:=⟨bi8,bf5,GC F__law_seed ,bi9,bj0,F__law_seed.binds (ps:=["_law_seed_here","_law_k"]) (fun _ _ _ _ _ _=>uS2 fun _ _=>rfl)⟩
 have ak2:(Callee l.prog w K mg base) "_law_pick" 1 ["_law_seed_here","_law_many"] xP:=⟨bj1,bf6,GE F__law_pick ,bj2,bj3,F__law_pick.binds (ps:=["_law_seed_here","_law_many"]) (fun _ _ _ _ _ _=>uS2 fun _ _=>rfl)⟩
 have af6:(Callee l.prog w K mg base) "check_settings" 2 ["most","hold","tries"] (fO ‹12›):=⟨aq2,ap2,oY F_check_settings TQ ab2,aq3,aq4,F_check_settings.binds (ps:=["most","hold","tries"]) (fun _ _ _ _ _ _=>uS3 fun _ _ _=>rfl)⟩
 have an4:(Callee l.prog w K mg base) "rows_of" 6 ["disk","segment","last"] spF:=⟨bp5,bm5,AB F_rows_of ,bp6,bp7,F_rows_of.binds (ps:=["disk","segment","last"]) (fun _ _ _ _ _ _=>uS3 fun _ _ _=>rfl)⟩
 have bc7:Maker l.prog w K mg base "Book" aa2 1 ["self"] (xR aa2):=⟨bj8,bg5,GG F_B__init__ TK,⟨bk8,bj9,bk0,bk9⟩,mg_of X G bo4,F_B__init__.binds (ps:=["self"]) ‹13›⟩
 have an5:(Callee l.prog w K mg base) "book_of" 7 ["disk"] (sM ‹12›):=⟨bp8,bm6,Es F_book_of TQ ac4 an4 bc7 ag5,bp9,bq0,F_book_of.binds (ps:=["disk"]) ‹13›⟩
 have au9:Maker l.prog w K mg base "Queue" aa7 8 ["self","disk","most","hold","tries"] (sJ ‹12›):=⟨bk2,bg6,BR F_Q__init__ TQ af6 an5 ad5,⟨bd5,bk3,bk4,bd6⟩,mg_of X G bl0,F_Q__init__.binds (ps:=["self","disk","most","hold","tries"]) fun _ _ _ _ _ _=>uS5 fun _ _ _ _ _=>rfl⟩
 have ai6:(Callee l.prog w K mg base) "_law_queue" 10 ["_law_disk","_law_settings"] (pI ‹12›):=⟨bf7,az3,DD F__law_queue au9,bf8,bf9,F__law_queue.binds (ps:=["_law_disk","_law_settings"]) (fun _ _ _ _ _ _=>uS2 fun _ _=>rfl)⟩
 exact HR (Bq (st:=oN) lL cL kL) TQ TK.toTxtR bc9 ae0 af3 ag6 ag3 bd0 av0 av1 aq1 ae7 am0 ak1 ak2 ai6
theorem walk {l:PySem.W.OpenLaw} {q:Program} {loose:List Str} {XP:(Str->Option Value)->Heap->Prop} {YP:World->Heap->Prop} {d:DefRec} {K:Params->PySem.W.Frag} (hn:l.most=some 63) (hdf:d.params.defaults=[])
  (hY:∀ (w:World) (h:Heap),YP w h->(K w.params).In h)
  (F:∀ (w:World) (mg:Str->Option Value) (fa:Addr) (h:Heap),(K w.params).In h->h.Ns mainGlobals mg->mg d.name=some (.ref fa)->
   ∃ fd:FuncData,(∀ (s:Shared) (u:Value),BindsTo s fd ⟨[u],[]⟩ [("_law_script",u)])/\∀ base:Heap,(K w.params).In base->base.Ns mainGlobals mg->FnOk l.prog w (K w.params) mg base (CXE l.prog w) 11 fa fd ["_law_script"] (xQ (K w.params))) :
  PySem.W.WalkO q loose XP YP l.row.toRowW d [] (fun f vs=>PySem.call f vs):=
 L2.Fk (n:=63) (k:=11) (x:="_law_script") (CX:=fun w=>CXE l.prog w) (sp:=fun w=>xQ (K w.params)) hn (by decide) hdf ⟨rfl,by decide,by decide⟩ hY F (fun _ _ a ns hl _ hS=>⟨a,ns,rfl,hS,fun _=>rfl⟩) fun _ _ _ _ _ ⟨_,_,_,_,_,z⟩=>z
end Qh
end
end
section
end
structure PySem.W.Fast:Prop where
 (tw9978568495273640623 tw10591522690241643964 tw11805492993957022335 tw16643421367641025318 tw13714076021423579397 tw16439844301463270436 tw638311600844889277 tw16736467073930267642 tw5317216212909990874 tw15982445168850414832 tw7616094655544496215 tw16406573463396847954 tw322956190425182950 tw7926049032682889851 tw14288404211013928612 tw10837595199629959246 tw13069379242869760351 tw470627337708475041 tw4240161953041854321 tw3980241980892448028 tw1805033437726977931 tw16758001276104862820 tw18088571151064658527 tw16110811957260016062 tw12318703597986164327 tw11360183356454020333 tw11994188213287524022 tw18424148905631248489 tw1557258193908749239 tw7324157983497678990 tw11765398317226478212 tw8807363017738417757 tw7738821372365953218 tw10866246924328426199 tw3718442411645817063 tw12203133361378837728 tw16734149788701164529 tw5442051070298980862 tw8200304080046907483 tw12741108246597221656 tw7353441553801943658 tw1036467716080538848 tw17835678902984958531 tw4380663419578000106 tw5807583767599132734 tw1049190334824256701 tw638443882609757415 tw11950764239277642798 tw16057106026373274968 tw375255512251000630 tw12767883528285516107 tw3887333356130009765 tw1426890344231446138 tw6943533504755603455 tw1095192144737873564 tw8630852591427432483 tw8021540789180087320 tw8966077945075693785 tw7382783655844445564 tw8706103204430060416 tw16238991394424349922 tw6598336209186310011 tw10438674379067453504 tw13563472873560198188 tw484807475369936086 tw12760011997327039033 tw12672662365771245310 tw4664298445252250827 tw2008407626855437096 tw9002747494576104783 tw2474250213545719727 tw15905797288563892504 tw5559671125277981855 tw3763207730643224001 tw8722457951729342167 tw16345423960545868113 tw3117280895055419844 tw15414948719532102789 tw13107554783830515173 tw8504534411339640426 tw16077212802136456263 tw4801473692108642890 tw8600502106268122729 tw7624299350523816607 tw17793197844225510758 tw3804884748404655000 tw2219494926049050636 tw15658535289191075681 tw15339752889602650434 tw9268235620991481492 tw2823174263029538538 tw5970725097385019360 tw10394131320361885380 tw1467312072709176253 tw5274137342343820453 tw16531883714938543909 tw18441427809719732836 tw11046483323334065941 tw15738733562268228705 tw7295264258935682730 tw18043409007099505847 tw4439667612297645986 tw106406331109609288 tw12540058223480567704 tw274071220175681267 tw137704464318206115 tw10188600267924154324 tw3799739690907916136 tw5862980765500364360 tw10019387056137861299 tw17047429630224888007 tw11761942205669640371 tw1040896909213315983 tw4321865390462413584 tw3228453723865553422 tw7923847179060898246 tw5016252854906061826 tw5269685799124814300 tw8431937541773359103 tw3678065205213337953 tw13353169152952216877 tw16201746528016755653 tw1139576567344039711 tw10103185276261543032 tw6534810276849159915 tw14397789446005422013 tw12781455402673998301 tw18081365152660171352 tw5576112430464411098 tw14110395020791128252 tw3770176862873352803 tw7689936584698325668 tw14852121719233965291 tw3027161551572839635 tw10371460268030645075 tw11386832491771220317 tw12026527520093982312 tw13357877937173929120 tw11583290934960382824 tw7582719620760728424 tw8427974125644232087 tw3875343234214270960 tw13604157696300676492 tw755559821449499503 tw9769504901082927530 tw4292248634251057490 tw2754702081789551705 tw12805588841422224021 tw2065943881441213060 tw6935723419519165081 tw16808832058046504636 tw17808513325158972087 tw9154845824638442554 tw3313884499433872425 tw14402215552745155596 tw11038601110943826284 tw17166567580071952855 tw16973475361763953029 tw1951897982789782357 tw12804098205764050786 tw4223370088916860836 tw18362894264930057979 tw7332955016543398926 tw8133020154530731730 tw10571428883349451363 tw15222365898604309321 tw5234899126044713164 tw12849246207089600991 tw2172871484108136812 tw15617573210895103114 tw14624584997539551004 tw17914215737710038221 tw1539055509868601931 tw3199136262817673348 tw473571515878403311 tw5038355845297018863 tw9091649134419670290 tw13912975182027232863 tw11736846849819936618 tw211137772059328974 tw2353013477589251893 tw8936505042219141711 tw14790453681059225577 tw11116582614414897673 tw15164412363844996306 tw15881516804147005525 tw4683236912152405999 tw1057005144413606215 tw7415102412499038494 tw8414456050959667064 tw3733541385133346623 tw4676833807688091724 tw4900973033728868491 tw16830316537435529693 tw16929438582128696915 tw16986987723933045569 tw4421764571342192339 tw21411397977010158 tw7038601000281302275 tw1715571738190387021 tw1843313869426563189 tw10266727235333577583 tw7474121353300574072 tw7057988443734926784 tw1109310868265317616 tw17046246724352574276 tw16726332720434304970 tw15761770383285034508 tw15762448370479120387 tw14197460684220288244 tw7975577813130737368 tw11911847542533514820 tw8403902000609898401 tw663228385107709432 tw13315417474631507290 tw13289596367771698408 tw11861013710920850440 tw16303801424674618419 tw12632626148693074909 tw12130256018410655369 tw12177879637536639085 tw13465772267694960950 tw12207272953985381593 tw13839240692468846708 tw16043132513492451082 tw16396089613099638062 tw15920289823030646502 tw10136034417109890602 tw7041340968057003993 tw11701197290606763156 tw1531659094521046201 tw16081455975203372917 tw7591634214748669135 tw2948411796126770665 tw18264294409013858072 tw6048524685801293729 tw7952036832659420021 tw17689662960970067698 tw1827369989593890117 tw4394433971574164332 tw14847805693293131910 tw2275421599090811720 tw11642947647711943135 tw17688553201050285787 tw10225606221173479083 tw642369761910993843 tw4961652042867236916 tw9098394469445631841 tw1315080695670727316 tw13902066810979314931 tw2152383532867704059 tw17997118728926861755 tw9500353812790553698 tw6589837321802065546 tw2656488571821579448 tw8100884335253991089 tw3720822489721865264 tw11756956595705995338 tw13440594045858782445 tw8150079048727381095 tw369660834672923108 tw7280968496335952429 tw12332928048988061263 tw6858526348873235377 tw3182923368372606727 tw11903070132426285957 tw16595025026861336499 tw75909012867375184 tw2742245879363997231 tw12812642148052465347 tw5915670597880345192 tw17718995357668254402 tw9427400775553402622 tw7342037643950611815 tw13654138177952577535 tw1823481514332269595 tw14937419551508202460 tw7082684331679685311 tw13737452415777326739 tw16290298660619475150 tw9729674370701212693 tw12214012841550473849 tw5683948429882902252 tw9498917049691441810 tw8591353663560235382 tw15602237080662122810 tw7172585549505369457 tw15879211774433434524 tw4986429108971630552 tw17638316823793568642 tw4387833984559721493 tw3510103316264753919 tw11762167639212478242 tw14844212368560836112 tw8167192004066686263 tw8296201125648173563 tw14142540335321072102 tw14256635948384530723 tw2377977219838644481 tw1747480229761269113 tw12910791561295621733 tw4536970904557271794 tw5165464997062567303 tw11949455336449522335 tw6569754002965821668 tw2900128697706131366 tw5352443795105225720 tw13640477058254109693 tw8159374221923889557 tw18037539634083751023 tw6590397120848209991 tw7912520583160366970 tw1799322903623531634 tw6730420477993663193 tw7495693926222489427 tw204328675768129596 tw4611436081068631508 tw3634165798144505906 tw15750505584290979342 tw9372383632782482824 tw16178861285514310373 tw4463712403344298692 tw16037491741519409571 tw17863451828684262216 tw14170835747656455580 tw5524528304353394324 tw2516404724694780158 tw7436049024556204354 tw4362381139339176845 tw679380565309412479 tw4402072406025176519 tw11938165628644611247 tw5524168001045808774 tw15427378136680111064 tw10192955141415946462 tw14760878751977676259 tw11901196799229281233 tw17889360288292298100 tw3193156984117335605 tw1954815382647340436 tw2580790771081012210 tw7248099709281539682 tw1531216653872018046 tw6598407238805897396 tw18292841018917951779 tw3428902513669883097 tw6484596524740594892 tw8622509856580747648 tw14176896739728731107 tw5660643711766908647 tw4983477756810180795 tw2207758620291175978 tw10091328626118552290 tw2594032130400764290 tw18263345725368262665 tw11735326478471140964 tw12809592076431910974 tw16124751704692201546 tw14895108058268131882 tw7118190739725657459 tw11583850537897327974 tw11385432442971043805 tw1382440984679421893 tw9421463566195891585 tw15016307121684638116 tw8819785143367251135 tw10761905553234332372 tw14284764101256104039 tw2056459547700160624 tw16354415185187584957 tw9377535006219397866 tw6524471322004938637 tw5073542319397919076 tw3691463253175910929 tw13896676197890668623 tw3633842853964118363 tw14962119226870844452 tw9798780455703807026 tw9781309452996656224 tw13835936341898834889 tw8792902189999307925 tw10513518612491992598 tw8988453397298529900 tw6051455586253679975 tw13419256602633946125 tw8564343144238432266 tw10743004928424647797 tw17825950146309040113 tw5931516731733390245 tw4445483733678877409 tw13660683597127385574 tw8287589072687661917 tw16789595721111527063 tw12219439882764832754 tw9588995219898094431 tw6691423705097009749 tw3360366358574627396 tw5351405919548023115 tw8697824722222408106 tw7349010645408473741 tw10922167263625960013 tw15088434106177509492 tw6287947676415555914 tw703805569342053575 tw9520592113558179113 tw11376673779107819579 tw9503608783985461902 tw8410610409009495029 tw11428750582418878484 tw14583985763813080705 tw3903109139020229823 tw14868570997766492436 tw12612776555796180279 tw839470094032866595 tw1902680860250033787 tw2763423553806193791 tw15410254501493611486 tw12729791214417195766 tw2415803892773289497 tw7170934883492179634 tw12773849921771742398 tw13401320748101146772 tw1040905471199570594 tw8445522078491583072 tw11477011600757874983 tw14994446154036359091 tw6303692916914168421 tw3552224701318292525 tw10326370801306186675 tw12669303379001663826 tw1542136865472851018 tw6003134057150250678 tw17362224964291445756 tw12807958336029260768 tw14189829686215286012 tw5424043949906078294 tw4078246141785961297 tw16585726275845576019 tw893035388660975164 tw9936059604434579542 tw3522606314913902268 tw14290350378226314151 tw6511306093567627472 tw1692807231074105636 tw2493752969964427766 tw1681453343713520177 tw17659981007940435337 tw16138546952382763662 tw6502481718022449129 tw3957831088709491401 tw16398885891918341556 tw1525387144730975090 tw13812343101785132778 tw15603422190501815707 tw6953850550411025313 tw619387992423129602 tw15254088097607829999 tw13618120438036219599 tw5241707946021565091 tw9540719523567608038:True)
open PySem PySem.W PyProof.Rows
set_option maxRecDepth 100000 in
set_option maxHeartbeats 0 in
theorem PySem.Challenge.cw_queuehold_k26_carried_holds : PySem.Challenge.rw_queuehold_k26_carried.Holds := by
 w_on; o_law; k_head; (case hw=>w_witness2)
 k_fill
 refine Qh.walk (l:=PySem.Challenge.rw_queuehold_k26_carried) rfl rfl (fun w h Y=>PySem.W.kIn_of Y) ?F
 case F=>
  intro w mg fa h KX G hmg
  refine' Qh.HX KX G hmg ?A0 ?A1 ?A2 ?A3 ?A4 ?A5 ?A6 ?A7 ?A8 ?A9 ?B0 ?B1 ?B2 ?B3 ?B4 ?B5 ?B6 ?B7 ?B8 ?B9 ?C0 ?C1 ?C2 ?C3 ?C4 ?C5 ?C6 ?bo3 ?av2 ?av3 ?av4 ?av5 ?bk6 ?bk7 ?an6 ?ah6 ?ag9 ?C7 ?C8 ?C9 ?D0 ?D1 ?D2 ?D3 ?D4 ?D5 ?D6 ?bo4 ?av6 ?av7 ?av8 ?av9 ?bk8 ?bk9 ?al1 ?ag4 ?an7 ?D7 ?D8 ?D9 ?E0 ?E1 ?E2 ?E3 ?E4 ?bl0 ?bd1 ?bd2 ?bd3 ?bd4 ?bd5 ?bd6 ?an8 ?an9 ?ao0 ?am7 ?ao1 ?am8 ?ao2 ?aj5 ?aj6 ?ap6 ?E5 ?E6 ?E7 ?E8 ?E9 ?G0 ?G1 ?G2 ?G3 ?G4 ?G5 ?G6 ?G7 ?aL ?lL ?cL ?kL ?as4 ?ae1 ?bc0 ?as5 ?al2 ?as6 ?as7 ?bc1 ?al3 ?ae9 ?ao3 ?bu6 ?bu7 ?am1 ?ae5 ?ad1 ?ag7 ?ad6 ?ae6 ?am9 ?ap7 ?al4 ?al5 ?aj7 ?al6 ?al7 ?ao4 ?ao5 ?ao6 ?aK ?qK ?ax2 ?ai9 ?ax3 ?aj0 ?bl1 ?ap1 ?ax4 ?aj1 ?am2 ?ad7 ?am3 ?af2 ?an0 ?af0 ?ax5 ?aj2 ?ax6 ?aj3 ?ak3 ?ad3 ?ax7 ?ag8
  case A0=>refine' Qh.bH ?a ?l ?c ?k; case a|l|c|k=>k_is
  case A1=>refine' Qh.bH ?a ?l ?c ?k; case a|l|c|k=>k_is
  case A2=>refine' Qh.bH ?a ?l ?c ?k; case a|l|c|k=>k_is
  case A3=>refine' Qh.bH ?a ?l ?c ?k; case a|l|c|k=>k_is
  case A4=>refine' Qh.bH ?a ?l ?c ?k; case a|l|c|k=>k_is
  case A5=>refine' Qh.bH ?a ?l ?c ?k; case a|l|c|k=>k_is
  case A6=>refine' Qh.bH ?a ?l ?c ?k; case a|l|c|k=>k_is
  case A7=>refine' Qh.bH ?a ?l ?c ?k; case a|l|c|k=>k_is
  case A8=>refine' Qh.bH ?a ?l ?c ?k; case a|l|c|k=>k_is
  case A9=>refine' Qh.bH ?a ?l ?c ?k; case a|l|c|k=>k_is
  case B0=>refine' Qh.bH ?a ?l ?c ?k; case a|l|c|k=>k_is
  case B1=>refine' Qh.bH ?a ?l ?c ?k; case a|l|c|k=>k_is
  case B2=>refine' Qh.bH ?a ?l ?c ?k; case a|l|c|k=>k_is
  case B3=>refine' Qh.bH ?a ?l ?c ?k; case a|l|c|k=>k_is
  case B4=>refine' Qh.bH ?a ?l ?c ?k; case a|l|c|k=>k_is
  case B5=>refine' Qh.bH ?a ?l ?c ?k; case a|l|c|k=>k_is
  case B6=>refine' Qh.bH ?a ?l ?c ?k; case a|l|c|k=>k_is
  case B7=>refine' Qh.bH ?a ?l ?c ?k; case a|l|c|k=>k_is
  case B8=>refine' Qh.bH ?a ?l ?c ?k; case a|l|c|k=>k_is
  case B9=>refine' Qh.bH ?a ?l ?c ?k; case a|l|c|k=>k_is
  case C0=>refine' Qh.bH ?a ?l ?c ?k; case a|l|c|k=>k_is
  case C1=>refine' Qh.bH ?a ?l ?c ?k; case a|l|c|k=>k_is
  case C2=>refine' Qh.bH ?a ?l ?c ?k; case a|l|c|k=>k_is
  case C3=>refine' Qh.bH ?a ?l ?c ?k; case a|l|c|k=>k_is
  case C4=>refine' Qh.bH ?a ?l ?c ?k; case a|l|c|k=>k_is
  case C5=>refine' Qh.bH ?a ?l ?c ?k; case a|l|c|k=>k_is
  case C6=>refine' Qh.bH ?a ?l ?c ?k; case a|l|c|k=>k_is
  case bo3|av2|av3|av4|av5|bk6|bk7|an6|ah6|ag9=>k_is
  case C7=>refine' Qh.aU ?a ?i ?l ?c ?k; case a|i|l|c|k=>k_is
  case C8=>refine' Qh.aU ?a ?i ?l ?c ?k; case a|i|l|c|k=>k_is
  case C9=>refine' Qh.aU ?a ?i ?l ?c ?k; case a|i|l|c|k=>k_is
  case D0=>refine' Qh.aU ?a ?i ?l ?c ?k; case a|i|l|c|k=>k_is
  case D1=>refine' Qh.aU ?a ?i ?l ?c ?k; case a|i|l|c|k=>k_is
  case D2=>refine' Qh.aU ?a ?i ?l ?c ?k; case a|i|l|c|k=>k_is
  case D3=>refine' Qh.aU ?a ?i ?l ?c ?k; case a|i|l|c|k=>k_is
  case D4=>refine' Qh.aU ?a ?i ?l ?c ?k; case a|i|l|c|k=>k_is
  case D5=>refine' Qh.aU ?a ?i ?l ?c ?k; case a|i|l|c|k=>k_is
  case D6=>refine' Qh.aU ?a ?i ?l ?c ?k; case a|i|l|c|k=>k_is
  case bo4|av6|av7|av8|av9|bk8|bk9|al1|ag4|an7=>k_is
  case D7=>refine' Qh.aU ?a ?i ?l ?c ?k; case a|i|l|c|k=>k_is
  case D8=>refine' Qh.aU ?a ?i ?l ?c ?k; case a|i|l|c|k=>k_is
  case D9=>refine' Qh.aU ?a ?i ?l ?c ?k; case a|i|l|c|k=>k_is
  case E0=>refine' Qh.aU ?a ?i ?l ?c ?k; case a|i|l|c|k=>k_is
  case E1=>refine' Qh.aU ?a ?i ?l ?c ?k; case a|i|l|c|k=>k_is
  case E2=>refine' Qh.aU ?a ?i ?l ?c ?k; case a|i|l|c|k=>k_is
  case E3=>refine' Qh.aU ?a ?i ?l ?c ?k; case a|i|l|c|k=>k_is
  case E4=>refine' Qh.aU ?a ?i ?l ?c ?k; case a|i|l|c|k=>k_is
  case bl0|bd1|bd2|bd3|bd4|bd5|bd6|an8|an9|ao0|am7|ao1|am8|ao2|aj5|aj6|ap6=>k_is
  case E5=>refine' Qh.aU ?a ?i ?l ?c ?k; case a|i|l|c|k=>k_is
  case E6=>refine' Qh.aU ?a ?i ?l ?c ?k; case a|i|l|c|k=>k_is
  case E7=>refine' Qh.aU ?a ?i ?l ?c ?k; case a|i|l|c|k=>k_is
  case E8=>refine' Qh.aU ?a ?i ?l ?c ?k; case a|i|l|c|k=>k_is
  case E9=>refine' Qh.aU ?a ?i ?l ?c ?k; case a|i|l|c|k=>k_is
  case G0=>refine' Qh.aU ?a ?i ?l ?c ?k; case a|i|l|c|k=>k_is
  case G1=>refine' Qh.aU ?a ?i ?l ?c ?k; case a|i|l|c|k=>k_is
  case G2=>refine' Qh.aU ?a ?i ?l ?c ?k; case a|i|l|c|k=>k_is
  case G3=>refine' Qh.aU ?a ?i ?l ?c ?k; case a|i|l|c|k=>k_is
  case G4=>refine' Qh.aU ?a ?i ?l ?c ?k; case a|i|l|c|k=>k_is
  case G5=>refine' Qh.aU ?a ?i ?l ?c ?k; case a|i|l|c|k=>k_is
  case G6=>refine' Qh.aU ?a ?i ?l ?c ?k; case a|i|l|c|k=>k_is
  case G7=>refine' Qh.aU ?a ?i ?l ?c ?k; case a|i|l|c|k=>k_is
  case aL|lL|cL|kL|as4|ae1|bc0|as5|al2|as6|as7|bc1|al3|ae9|ao3|bu6|bu7|am1|ae5|ad1|ag7|ad6|ae6|am9|ap7|al4|al5|aj7|al6|al7|ao4|ao5|ao6|aK=>k_is
  (case qK=>exact rfl)
  case ax2=>k_is
  (case ai9=>exact rfl)
  case ax3=>k_is
  (case aj0=>exact rfl)
  case bl1=>k_is
  (case ap1=>exact rfl)
  case ax4=>k_is
  (case aj1=>exact rfl)
  case am2=>k_is
  (case ad7=>exact rfl)
  case am3=>k_is
  (case af2=>exact rfl)
  case an0=>k_is
  (case af0=>exact rfl)
  case ax5=>k_is
  (case aj2=>exact rfl)
  case ax6=>k_is
  (case aj3=>exact rfl)
  case ak3=>k_is
  (case ad3=>exact rfl)
  case ax7=>k_is
  (case ag8=>exact rfl)
end
